/- RecordMemory: all that it holds while bytes are written over. -/
import Derived.Test.YtdalheeifgampaaDoorM1
import Derived.Test.YtdalheeifgampaaDoorLB
namespace Go.Proofs.YtdalheeifgampaaDoor
open Go.RowKit Go.Sort Orl Pk
set_option linter.unusedVariables false
set_option linter.unusedSimpArgs false

theorem ScnD.keeps {S : Nat → Prop} {w w' w'' : World} {o : Option Addr} {c : Nat} {vs : List CV} {rs : List Rec} (h : Scn w w' o c vs rs) (hk : Keeps S w' w'') (hS : ∀ j, S j → j < w.heap.size) : Scn w w'' o c vs rs :=
  ⟨h.own.keeps hk (fun j hj hs => by have := h.new j hj; have := hS j hs; omega), h.new, h.len, fun j hj => (h.each j hj).keeps hk hS, h.sep⟩
theorem two_run {r s : Rec} (hr : may r = true ∧ r.id < 18446744073709551616 ∧ (body r).length ≤ 100000) (hs : may s = true ∧ s.id < 18446744073709551616 ∧ (body s).length ≤ 100000) :
    Run (enc r ++ enc s) [r, s] ((enc r).length + (enc s).length) ∧ (parse ((enc r ++ enc s).drop ((enc r).length + (enc s).length))).2.2 ≠ 0 := by
  have p1 := parse_enc r hr.1 hr.2.1 (by have := hr.2.2; omega) (sum_body r) (enc s)
  have p2 := parse_enc s hs.1 hs.2.1 (by have := hs.2.2; omega) (sum_body s) []
  rw [List.append_nil] at p2
  have r1 : Run (enc r ++ enc s) ([] ++ [r]) (0 + (enc r).length) := Run.snoc Run.nil (by rw [List.drop_zero]; exact p1)
  have r2 : Run (enc r ++ enc s) (([] ++ [r]) ++ [s]) (0 + (enc r).length + (enc s).length) := Run.snoc r1 (by rw [Nat.zero_add, List.drop_left]; exact p2)
  rw [Nat.zero_add] at r2
  refine ⟨r2, ?_⟩
  rw [← List.length_append, List.drop_length, parse_short (by simp)]
  decide
/-- a record in a variable, all of it below lo -/
structure VarL (D : Nat) (v : CV) (r : Rec) (lo : Nat) (W : World) : Prop where
  b : W.heap[D]? = some (.cells #[.int .i64 v.k, .int .u64 (v.i : Nat), .slice v.op v.np v.cp, .slice v.ok v.nk v.ck] 30 (0, 0))
  c : IsC W v r
  l : ∀ x, v.blk x → x < lo
  d : D < lo
theorem VarL.keeps {D : Nat} {v : CV} {r : Rec} {lo : Nat} {S : Nat → Prop} {W W' : World} (h : VarL D v r lo W) (hk : Keeps S W W') (hS : ∀ x, S x → lo ≤ x) : VarL D v r lo W' :=
  ⟨hk.at h.b (fun e => by have := hS _ e; have := h.d; omega), h.c.keeps hk (fun x hx e => by have := hS _ e; have := h.l x (.inl hx); omega) (fun x hx e => by have := hS _ e; have := h.l x (.inr hx); omega), h.l, h.d⟩
structure All (w : World) (lo hi : Nat) (R : Nat) (vr : CV) (r : Rec) (S : Nat) (vs : CV) (s : Rec) (gK cK : Nat) (X : List Nat) (wl : World) (ol : Option Addr) (cl : Nat) (L : List CV) (wm : World) (om : Option Addr) (cm : Nat) (M : List CV) (wp : World) (P : Nat) (vp : CV) (wq : World) (Q : Nat) (vq : CV) (W : World) : Prop where
  kp : Keeps no w W
  w0 : w.heap.size ≤ lo
  vr : VarL R vr r lo W
  vs : VarL S vs s lo W
  k : BSl W (some ⟨gK, 0, none⟩) cK X
  kh : hi ≤ gK
  l : Scn wl W ol cl L [r, s]
  lh : hi ≤ wl.heap.size ∧ gK < wl.heap.size
  m : Scn wm W om cm M [r, s]
  mh : ∀ x, (L.getD 0 cv0).blk x ∨ (L.getD 1 cv0).blk x → x < wm.heap.size
  ml : wl.heap.size ≤ wm.heap.size
  p : Got wp W vp r
  ph : ∀ x, (M.getD 0 cv0).blk x ∨ (M.getD 1 cv0).blk x → x < wp.heap.size
  pl : wm.heap.size ≤ wp.heap.size
  pb : W.heap[P]? = some (.cells #[.int .i64 vp.k, .int .u64 (vp.i : Nat), .slice vp.op vp.np vp.cp, .slice vp.ok vp.nk vp.ck] 30 (0, 0))
  pd : hi ≤ P
  q : Got wq W vq r
  qh : ∀ x, vp.blk x → x < wq.heap.size
  ql : wp.heap.size ≤ wq.heap.size
  qb : W.heap[Q]? = some (.cells #[.int .i64 vq.k, .int .u64 (vq.i : Nat), .slice vq.op vq.np vq.cp, .slice vq.ok vq.nk vq.ck] 30 (0, 0))
  qd : hi ≤ Q
theorem All.keeps {w : World} {lo hi : Nat} {R : Nat} {vr : CV} {r : Rec} {S : Nat} {vs : CV} {s : Rec} {gK cK : Nat} {X : List Nat} {wl : World} {ol : Option Addr} {cl : Nat} {L : List CV} {wm : World} {om : Option Addr} {cm : Nat} {M : List CV} {wp : World} {P : Nat} {vp : CV} {wq : World} {Q : Nat} {vq : CV} {W W' : World} {T : Nat → Prop} (h : All w lo hi R vr r S vs s gK cK X wl ol cl L wm om cm M wp P vp wq Q vq W) (hk : Keeps T W W') (hT : ∀ x, T x → lo ≤ x ∧ x < hi) : All w lo hi R vr r S vs s gK cK X wl ol cl L wm om cm M wp P vp wq Q vq W' := by
  have h1 := h.lh
  have h2 := h.ml
  have h3 := h.pl
  have h4 := h.ql
  have h5 := h.w0
  refine ⟨h.kp.then hk (fun x hx => .inr (by have := hT x hx; omega)), h.w0, h.vr.keeps hk (fun x hx => (hT x hx).1), h.vs.keeps hk (fun x hx => (hT x hx).1), h.k.keeps hk (fun x hx e => ?_), h.kh, ScnD.keeps h.l hk (fun x hx => by have := hT x hx; omega), h.lh, ScnD.keeps h.m hk (fun x hx => by have := hT x hx; omega), h.mh, h.ml, h.p.keeps hk (fun x hx => by have := hT x hx; omega), h.ph, h.pl, hk.at h.pb (fun e => by have := hT _ e; have := h.pd; omega), h.pd, h.q.keeps hk (fun x hx => by have := hT x hx; omega), h.qh, h.ql, hk.at h.qb (fun e => by have := hT _ e; have := h.qd; omega), h.qd⟩
  obtain ⟨y, ey, rfl⟩ := hx
  cases ey
  have h7 := h.kh
  have h6 := hT _ e
  exact absurd h6.2 (by simp only; omega)
theorem All.keepsN {w : World} {lo hi : Nat} {R : Nat} {vr : CV} {r : Rec} {S : Nat} {vs : CV} {s : Rec} {gK cK : Nat} {X : List Nat} {wl : World} {ol : Option Addr} {cl : Nat} {L : List CV} {wm : World} {om : Option Addr} {cm : Nat} {M : List CV} {wp : World} {P : Nat} {vp : CV} {wq : World} {Q : Nat} {vq : CV} {W W' : World} (h : All w lo hi R vr r S vs s gK cK X wl ol cl L wm om cm M wp P vp wq Q vq W) (hk : Keeps no W W') : All w lo hi R vr r S vs s gK cK X wl ol cl L wm om cm M wp P vp wq Q vq W' := h.keeps hk (fun x hx => hx.elim)
theorem owns_some' {w : World} {o : Option Addr} {c : Nat} {X : List Nat} (h : Owns w o c X) (hX : X ≠ []) : ∃ g, o = some ⟨g, 0, none⟩ := by
  rcases h.shape with ⟨_, _, e⟩ | ⟨g, cur, e, _⟩
  · exact absurd e hX
  · exact ⟨g, e⟩
theorem enc_ne (r : Rec) : enc r ≠ [] := by
  intro e
  have := enc_length r
  rw [e] at this
  simp at this
/-- bytes written over, up to q -/
def Ov (W : World) (g c n v q : Nat) : Prop := ∃ bs, Owns W (some ⟨g, 0, none⟩) c bs ∧ bs.length = n ∧ ∀ j, j < q → bs.getD j 0 = v
theorem Ov.set {W : World} {g c n v q : Nat} (h : Ov W g c n v q) (hq : q < n) : Ov (W.setCell ⟨g, q, none⟩ (.int .u8 (v : Nat))) g c n v (q + 1) := by
  obtain ⟨bs, h1, h2, h3⟩ := h
  refine ⟨_, h1.set q v, by rw [List.length_set]; exact h2, fun j hj => ?_⟩
  rw [set_getD _ _ _ _ _ (by omega)]
  by_cases e : j = q
  · rw [if_pos e]
  · rw [if_neg e]; exact h3 j (by omega)
theorem Ov.cell {W : World} {g c n v q : Nat} (h : Ov W g c n v q) {j : Nat} (hj : j < n) : (∃ u, W.cell? ⟨g, j, none⟩ = some u) ∧ W.frozen? ⟨g, j, none⟩ = false := by
  obtain ⟨bs, h1, h2, h3⟩ := h
  exact ⟨⟨_, h1.cellAt j (by omega)⟩, h1.free j⟩
theorem Ov.keeps {S : Nat → Prop} {W W' : World} {g c n v q : Nat} (h : Ov W g c n v q) (hk : Keeps S W W') (hg : ¬ S g) : Ov W' g c n v q := by
  obtain ⟨bs, h1, h2, h3⟩ := h
  exact ⟨bs, h1.keeps hk (fun x hx => by obtain ⟨y, ey, rfl⟩ := hx; cases ey; exact hg), h2, h3⟩
end Go.Proofs.YtdalheeifgampaaDoor
