/- WalKeeps: the list of what was told, in memory. -/
import Derived.Test.YtgamhblkgojapaaDoorGK2
import Derived.Test.YtgamhblkgojapaaDoorFo
namespace Go.Proofs.YtgamhblkgojapaaDoor
open Go.RowKit Pk Dk
set_option linter.unusedVariables false
set_option linter.unusedSimpArgs false

def laL : Option Rec → List KR
  | none => []
  | some r => [(r, false)]
def allL (D : List Rec) (la : Option Rec) : List KR := D.map (fun r => (r, true)) ++ laL la
theorem allL_len (D : List Rec) (la : Option Rec) : (allL D la).length = D.length + (laL la).length := by simp [allL]
theorem allL_done (D : List Rec) (r : Rec) : allL (D ++ [r]) none = allL D none ++ [(r, true)] := by simp [allL, laL]
theorem allL_down (D : List Rec) (r : Rec) : allL D (some r) = allL D none ++ [(r, false)] := by simp [allL, laL]
theorem allL_at {D : List Rec} {la : Option Rec} {j : Nat} (hj : j < D.length) : (allL D la).getD j kr0 = (D.getD j c0, true) := by
  unfold allL
  rw [List.getD_eq_getElem?_getD, List.getElem?_append_left (by simpa using hj), List.getElem?_map]
  simp [List.getD_eq_getElem?_getD, hj]
theorem allL_last (D : List Rec) (r : Rec) : (allL D (some r)).getD D.length kr0 = (r, false) := by
  unfold allL laL
  rw [List.getD_eq_getElem?_getD, List.getElem?_append_right (by simp)]
  simp
theorem right_of {rs D : List Rec} {la : Option Rec} (h : rs = D ∨ ∃ r, la = some r ∧ rs = D ++ [r]) : Right rs (allL D la) := by
  rcases h with rfl | ⟨r, rfl, rfl⟩
  · refine ⟨by rw [allL_len]; omega, fun j hj => by rw [allL_at hj], fun j h1 h2 => ?_⟩
    rw [allL_len] at h2
    cases la with
    | none => simp [laL] at h2; omega
    | some r =>
      have : j = rs.length := by simp [laL] at h2; omega
      rw [this, allL_last]
  · refine ⟨by rw [allL_len]; simp [laL], fun j hj => ?_, fun j h1 h2 => ?_⟩
    · by_cases h1 : j < D.length
      · rw [allL_at h1, List.getD_eq_getElem?_getD, List.getElem?_append_left h1, List.getD_eq_getElem?_getD]
      · have : j = D.length := by simp at hj; omega
        rw [this, allL_last, List.getD_eq_getElem?_getD, List.getElem?_append_right (by omega)]
        simp
    · rw [allL_len] at h2
      simp [laL] at h1 h2
      omega
def LogBlk (W : World) (k : Nat) : Prop := ∃ cs, W.heap[k]? = some (.cells cs 87 (0, 0))
theorem IsL.logBlk {W : World} {q p : Nat} {n : Tx} {k : Nat} (h : IsL W q p n k) : LogBlk W q := ⟨_, h.blk⟩
theorem Own.no_log {α : Type} {E : El α} (hE : E.e ≠ 87) {W : World} {o : Option Addr} {c : Nat} {xs : List α} (h : Own E W o c xs) {k : Nat} (hk : inO o k) : ¬ LogBlk W k := by
  rintro ⟨cs, hc⟩
  obtain ⟨cur, h1⟩ := h.tag k hk
  exact ne_cells h1 hc hE rfl
/-- the list of what was told; its records lie in memory of the call's own -/
structure Tld (w1 W : World) (F : Nat → Prop) (oa : Option Addr) (ca : Nat) (vs : List KV) (L : List KR) : Prop where
  own : Own KE W oa ca vs
  new : New w1 oa
  far : ∀ k, inO oa k → ¬ F k
  len : vs.length = L.length
  each : ∀ j, j < L.length → Got w1 W (vs.getD j kv0).1 (L.getD j kr0).1
  fars : ∀ j, j < L.length → ∀ k, (vs.getD j kv0).1.blk k → ¬ F k
  done : ∀ j, j < L.length → (vs.getD j kv0).2 = (L.getD j kr0).2
theorem tld_nil (w1 W : World) (F : Nat → Prop) : Tld w1 W F none 0 [] [] := ⟨own_nil _, new_none _, fun k ⟨x, h, _⟩ => (by cases h), rfl, fun j hj => (by simp at hj), fun j hj => (by simp at hj), fun j hj => (by simp at hj)⟩
/-- a record's lists stay -/
theorem Got.step {w1 W W' : World} {v : CV} {r : Rec} {F S : Nat → Prop} (h : Got w1 W v r) (hk : Keeps S W W') (hS : ∀ k, S k → F k ∨ LogBlk W k) (hf : ∀ k, v.blk k → ¬ F k) : Got w1 W' v r :=
  ⟨h.k, h.i, h.np, h.nk, h.ps.keeps hk (fun k h1 h2 => by
    rcases hS k h2 with h3 | h3
    · exact hf k (.inl h1) h3
    · exact h.ps.no_log (by decide) h1 h3), h.ks.keeps hk (fun k h1 h2 => by
    rcases hS k h2 with h3 | h3
    · exact hf k (.inr h1) h3
    · exact h.ks.no_log (by decide) h1 h3), h.pn, h.kn, h.fit⟩
theorem Tld.step {w1 W W' : World} {F F' S : Nat → Prop} {oa : Option Addr} {ca : Nat} {vs : List KV} {L : List KR} (h : Tld w1 W F oa ca vs L) (hk : Keeps S W W') (hS : ∀ k, S k → F k ∨ LogBlk W k) (hF : ∀ k, F' k → F k ∨ W.heap.size ≤ k) : Tld w1 W' F' oa ca vs L := by
  refine ⟨h.own.keeps hk (fun k h1 h2 => ?_), h.new, fun k h1 h2 => ?_, h.len, fun j hj => (h.each j hj).step hk hS (h.fars j hj), fun j hj k h1 h2 => ?_, h.done⟩
  · rcases hS k h2 with h3 | h3
    · exact h.far k h1 h3
    · exact h.own.no_log (by decide) h1 h3
  · rcases hF k h2 with h3 | h3
    · exact h.far k h1 h3
    · have := h.own.lt k h1; omega
  · rcases hF k h2 with h3 | h3
    · exact h.fars j hj k h1 h3
    · have := (h.each j hj).lt k h1; omega
theorem Tld.keepsN {w1 W W' : World} {F : Nat → Prop} {oa : Option Addr} {ca : Nat} {vs : List KV} {L : List KR} (h : Tld w1 W F oa ca vs L) (hk : Keeps no W W') : Tld w1 W' F oa ca vs L := h.step hk (fun _ h => h.elim) (fun _ h => .inl h)
theorem Tld.keepsF {w1 W W' : World} {F : Nat → Prop} {oa : Option Addr} {ca : Nat} {vs : List KV} {L : List KR} (h : Tld w1 W F oa ca vs L) (hk : Keeps F W W') : Tld w1 W' F oa ca vs L := h.step hk (fun _ h => .inl h) (fun _ h => .inl h)
theorem Tld.log {w1 W W' : World} {F : Nat → Prop} {oa : Option Addr} {ca : Nat} {vs : List KV} {L : List KR} {q : Nat} (h : Tld w1 W F oa ca vs L) (hq : LogBlk W q) (hk : Keeps (fun x => F x ∨ x = q) W W') : Tld w1 W' (grow F W W') oa ca vs L :=
  h.step hk (fun k h => by rcases h with h | h; exact .inl h; rw [h]; exact .inr hq) (fun k h => by rcases h with h | h; exact .inl h; exact .inr h.1)
theorem Tld.ks {w1 W : World} {F : Nat → Prop} {oa : Option Addr} {ca : Nat} {vs : List KV} {L : List KR} (h : Tld w1 W F oa ca vs L) : KsIn W oa ca vs L := ⟨h.own.sl, h.len, fun j hj => (h.each j hj).isC, h.done⟩
/-- one more -/
theorem Tld.push {w1 W W' : World} {F : Nat → Prop} {oa oa' : Option Addr} {ca ca' : Nat} {vs : List KV} {L : List KR} {v : KV} {r : KR} (h : Tld w1 W F oa ca vs L) (hk1 : Keeps no w1 W) (hlt : ∀ k, F k → k < W.heap.size) (hG : Got w1 W v.1 r.1) (hf : ∀ k, v.1.blk k → ¬ F k) (hd : v.2 = r.2) (ho : Own KE W' oa' ca' (vs ++ [v])) (hap : Ap W oa oa' W') : Tld w1 W' F oa' ca' (vs ++ [v]) (L ++ [r]) := by
  have kk : ∀ {α : Type} {E : El α} {oo : Option Addr} {cc : Nat} {l : List α}, KE.e ≠ E.e → Own E W oo cc l → Own E W' oo cc l := by
    intro α E oo cc l hne hO
    rcases hap with ⟨_, hh⟩ | ⟨_, hh⟩
    · exact hO.keeps hh (fun j hj hi => own_ne hne h.own hO j hi hj)
    · exact hO.keepsN hh
  have gg : ∀ {v : CV} {r : Rec}, Got w1 W v r → Got w1 W' v r := fun g => ⟨g.k, g.i, g.np, g.nk, kk (by decide) g.ps, kk (by decide) g.ks, g.pn, g.kn, g.fit⟩
  have hsp : ∀ j, j < (L ++ [r]).length → (j < L.length ∧ (vs ++ [v]).getD j kv0 = vs.getD j kv0 ∧ (L ++ [r]).getD j kr0 = L.getD j kr0) ∨ (j = L.length ∧ (vs ++ [v]).getD j kv0 = v ∧ (L ++ [r]).getD j kr0 = r) := by
    intro j hj
    rw [getD_snoc, getD_snoc, h.len]
    by_cases hj2 : j < L.length
    · exact .inl ⟨hj2, by rw [if_pos hj2], by rw [if_pos hj2]⟩
    · have : j = L.length := by simp at hj; omega
      exact .inr ⟨this, by rw [if_neg hj2, if_pos this], by rw [if_neg hj2, if_pos this]⟩
  refine ⟨ho, (hap.new h.new hk1).1, ?_, by simp [h.len], ?_, ?_, ?_⟩
  · intro k h1 h2
    rcases hap with ⟨rfl, _⟩ | ⟨⟨g, rfl, hg⟩, _⟩
    · exact h.far k h1 h2
    · have := in_some h1; have := hlt k h2; omega
  · intro j hj
    rcases hsp j hj with ⟨h1, e1, e2⟩ | ⟨_, e1, e2⟩
    · rw [e1, e2]; exact gg (h.each j h1)
    · rw [e1, e2]; exact gg hG
  · intro j hj
    rcases hsp j hj with ⟨h1, e1, e2⟩ | ⟨_, e1, e2⟩
    · rw [e1]; exact h.fars j h1
    · rw [e1]; exact hf
  · intro j hj
    rcases hsp j hj with ⟨h1, e1, e2⟩ | ⟨_, e1, e2⟩
    · rw [e1, e2]; exact h.done j h1
    · rw [e1, e2]; exact hd
theorem Tld.dn_ap {w1 W W' : World} {p : Nat} {F : Nat → Prop} {s : St} {oa oa' : Option Addr} {ca : Nat} {vs : List KV} {L : List KR} (h : Tld w1 W F oa ca vs L) (hd : Dn w1 W p F s) (hap : Ap W oa oa' W') : Dn w1 W' p F s := by
  rcases hap with ⟨_, hk⟩ | ⟨_, hk⟩
  · exact ⟨hd.is.keeps hk (fun k hF hi => h.far k hi hF), hd.new, hd.kept.then hk (fun i hi => .inr (h.new i hi))⟩
  · exact hd.beside hk
theorem Tld.log_ap {w1 W W' : World} {F : Nat → Prop} {oa oa' : Option Addr} {ca : Nat} {vs : List KV} {L : List KR} {q p : Nat} {n : Tx} {k : Nat} (h : Tld w1 W F oa ca vs L) (hL : IsL W q p n k) (hap : Ap W oa oa' W') : IsL W' q p n k := by
  rcases hap with ⟨_, hk⟩ | ⟨_, hk⟩
  · exact hL.keeps hk (fun hi => h.own.no_log (by decide) hi hL.logBlk)
  · exact hL.keeps hk (fun h => h)
theorem own_oneK (w : World) (v : KV) : Sl KE (w.alloc (.cells #[.int .i64 v.1.k, .int .u64 (v.1.i : Nat), .slice v.1.op v.1.np v.1.cp, .slice v.1.ok v.1.nk v.1.ck, .bool v.2] 59)) (some ⟨w.heap.size, 0, none⟩) 1 [v] := by
  refine ⟨.inr ⟨_, _, rfl, fun j u hj => ?_⟩, by simp, fun e => by cases e⟩
  rw [cell_of_blk (blk_new w _), Nat.zero_add]
  simpa [El.cells, KE] using hj
theorem Sl.atO {w : World} {a : Option Addr} {c : Nat} {xs : List OV} (h : Sl OE w a c xs) {j : Nat} (hj : j < xs.length) : ∃ b off, a = some ⟨b, off, none⟩ ∧ ∀ i u, (OE.enc (xs.getD j ov0))[i]? = some u → i < 9 → w.cell? ⟨b, off + j * 9 + i, none⟩ = some u := by
  rcases h.row with e | ⟨b, off, rfl, hc⟩
  · subst e; simp at hj
  · refine ⟨b, off, rfl, fun i u hu hi => ?_⟩
    rw [Nat.add_assoc]
    refine hc (j * 9 + i) _ ?_
    have := cells_at okO ov0 xs j i hj hi
    rw [show OE.k = 9 from rfl] at this
    rw [this, hu]
end Go.Proofs.YtgamhblkgojapaaDoor
