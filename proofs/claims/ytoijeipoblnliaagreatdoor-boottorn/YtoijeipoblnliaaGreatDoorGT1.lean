/- WalTorn: its states, in pure lists; what its loop holds. -/
import Derived.Test.YtoijeipoblnliaaGreatDoorGR1
import Derived.Test.YtoijeipoblnliaaGreatDoorG3
import Derived.Deep.RegionHeldLaw
namespace Go.Proofs.YtoijeipoblnliaaGreatDoor
open Go.RowKit Pk Dk
set_option linter.unusedVariables false
set_option linter.unusedSimpArgs false

def rb (l : List Rec) : List UInt8 := u8s (rowb l)
theorem rb_nts (l : List Rec) : nts (rb l) = rowb l := nts_u8s (rowb_byt l)
theorem rb_len (l : List Rec) : (rb l).length = (rowb l).length := u8s_length _
theorem rb_snoc (l : List Rec) (r : Rec) : rb (l ++ [r]) = rb l ++ u8s (enc r) := by unfold rb; rw [rowb_snoc]; simp [u8s]
/-- the file of some records, none of it synced -/
def tx (l : List Rec) : Option Fl := if l = [] then none else some ⟨rb l, 0⟩
def ts (n : Nm) (x : Option Fl) : St := sg n x false 0 (-1) 0
theorem tx_bs (l : List Rec) : bsX (tx l) = rb l := by
  unfold tx
  split
  · rename_i h; subst h; rfl
  · rfl
theorem tx_sy (n : Nm) (l : List Rec) : syOf n (ts n (tx l)) = 0 := by
  unfold syOf ts
  rw [sg_find]
  by_cases h : l = []
  · simp [tx, h]
  · simp [tx, h]
/-- bytes laid behind them -/
theorem ts_app {n : Nm} (hn : good n = true) (l : List Rec) (b : List UInt8) : counted (ts n (tx l)) (appendOn n b) = (ts n (some ⟨rb l ++ b, 0⟩), 0) := by
  have h := app_on (s := ts n (tx l)) (b := b) (sg_on ..) rfl hn (sg_room n _ _ _ _ _)
  rw [h, tx_sy]
  unfold ts
  rw [sg_bs, tx_bs, sg_lay]
theorem ts_snoc {n : Nm} (hn : good n = true) (l : List Rec) (r : Rec) : counted (ts n (tx l)) (appendOn n (u8s (enc r))) = (ts n (tx (l ++ [r])), 0) := by
  rw [ts_app hn, ← rb_snoc]
  unfold tx
  rw [if_neg (by simp)]
theorem ts_open (n : Nm) {l : List Rec} {r : Rec} (hl : Gds l) (hr : Gd r) {k : Nat} (hk : k < (enc r).length) : Opn n (ts n (some ⟨rb l ++ (u8s (enc r)).take k, 0⟩)) (ts n (some ⟨rb l, 0⟩)) 0 (rowb l).length l := by
  by_cases h0 : k = 0
  · subst h0
    rw [List.take_zero, List.append_nil]
    exact opn_whole (sg_on ..) (sg_find ..) hl (rb_nts l)
  · have hb : nts (rb l ++ (u8s (enc r)).take k) = rowb l ++ (enc r).take k := by rw [nts_append, rb_nts, nts_take, nts_u8s (enc_byt r)]
    have h := opn_torn (sg_on n (some ⟨rb l ++ (u8s (enc r)).take k, 0⟩) 0 0) (sg_find ..) hl hb (torn_ne hr hk) (by rw [List.length_take]; omega)
    rw [sg_lay] at h
    have e : (rb l ++ (u8s (enc r)).take k).take (rowb l).length = rb l := by rw [← rb_len l, List.take_left]
    simp only [e, Nat.zero_min] at h
    exact h
theorem ts_apd {n : Nm} (hn : good n = true) (l : List Rec) {r : Rec} (hr : Gd r) : apd n r (ts n (some ⟨rb l, 0⟩)) = (ts n (some (fl (rb (l ++ [r])))), 0) := by
  have h := apd_on (s := ts n (some ⟨rb l, 0⟩)) (r := r) (inc_fx n (some ⟨rb l, 0⟩)) (sg_on ..) rfl hn (sg_room n _ _ _ _ _) hr.encE
  rw [h]
  unfold ts
  rw [sg_bs, sg_lay, rb_snoc]
  rfl
theorem ts_open2 (n : Nm) {l : List Rec} (hl : Gds l) : Opn n (ts n (some (fl (rb l)))) (ts n (some (fl (rb l)))) 0 (rowb l).length l := opn_whole (sg_on ..) (sg_find ..) hl (rb_nts l)
theorem ts_bs (n : Nm) (x : Option Fl) : bsOf n (ts n x) = bsX x := sg_bs ..
/-- records that came in: their cells, what they are -/
theorem recs_in {W : World} : ∀ (vs : List CV), (∀ v ∈ vs, ∃ r, IsC W v r) → ∃ rs : List Rec, rs.length = vs.length ∧ ∀ j, j < vs.length → IsC W (vs.getD j cv0) (rs.getD j c0)
  | [], _ => ⟨[], rfl, fun j hj => by simp at hj⟩
  | v :: vs, h => by
    obtain ⟨r, hr⟩ := h v List.mem_cons_self
    obtain ⟨rs, hl, he⟩ := recs_in vs (fun x hx => h x (List.mem_cons_of_mem _ hx))
    refine ⟨r :: rs, by simp [hl], fun j hj => ?_⟩
    cases j with
    | zero => exact hr
    | succ j =>
      simp only [List.getD_cons_succ]
      exact he j (by simpa using hj)
/-- what the loop holds: a disk, the records that were laid, their list -/
structure TlS (w0 w1 W : World) (p : Nat) (F : Nat → Prop) (n : Nm) (ow : Option Addr) (cw : Nat) (vs : List CV) (l : List Rec) : Prop where
  dn : Dn w1 W p F (ts n (tx l))
  own : Own CE W ow cw vs
  new : New w1 ow
  far : ∀ k, inO ow k → ¬ F k
  len : vs.length = l.length
  each : ∀ j, j < l.length → IsC w0 (vs.getD j cv0) (l.getD j c0)
  good : Gds l
theorem TlS.keepsN {w0 w1 W W' : World} {p : Nat} {F : Nat → Prop} {n : Nm} {ow : Option Addr} {cw : Nat} {vs : List CV} {l : List Rec} (h : TlS w0 w1 W p F n ow cw vs l) (hk : Keeps no W W') : TlS w0 w1 W' p F n ow cw vs l :=
  ⟨h.dn.beside hk, h.own.keepsN hk, h.new, h.far, h.len, h.each, h.good⟩
/-- the list grown: the disk is as it was -/
theorem TlS.dn_ap {w0 w1 W W1 : World} {p : Nat} {F : Nat → Prop} {n : Nm} {ow ow' : Option Addr} {cw : Nat} {vs : List CV} {l : List Rec} (h : TlS w0 w1 W p F n ow cw vs l) (hap : Ap W ow ow' W1) : Dn w1 W1 p F (ts n (tx l)) := by
  rcases hap with ⟨rfl, hk⟩ | ⟨_, hk⟩
  · exact ⟨h.dn.is.keeps hk (fun k hF hi => h.far k hi hF), h.dn.new, h.dn.kept.then hk (fun i hi => .inr (h.new i hi))⟩
  · exact h.dn.beside hk
/-- one record more: the list grown, the disk behind it -/
theorem TlS.push {w0 w1 W W1 W2 : World} {p : Nat} {F : Nat → Prop} {n : Nm} {ow ow' : Option Addr} {cw cw' : Nat} {vs : List CV} {l : List Rec} {v : CV} {r : Rec} (h : TlS w0 w1 W p F n ow cw vs l) (hr : IsC w0 v r) (hg : Gd r)
    (ho : Own CE W1 ow' cw' (vs ++ [v])) (hap : Ap W ow ow' W1) (hd : Dn w1 W2 p (grow F W1 W2) (ts n (tx (l ++ [r])))) (hk : Keeps F W1 W2) : TlS w0 w1 W2 p (grow F W1 W2) n ow' cw' (vs ++ [v]) (l ++ [r]) := by
  have hf : ∀ k, inO ow' k → ¬ F k := by
    intro k hk hF
    rcases hap with ⟨rfl, _⟩ | ⟨⟨g, rfl, hg⟩, _⟩
    · exact h.far k hk hF
    · have := in_some hk
      have := h.dn.is.lt k hF
      omega
  have hlt : ∀ k, inO ow' k → k < W1.heap.size := ho.lt
  refine ⟨hd, ho.keeps hk hf, (hap.new h.new h.dn.kept).1, ?_, by simp [h.len], ?_, h.good.snoc hg⟩
  · intro k hk hF
    rcases hF with hF | hF
    · exact hf k hk hF
    · have := hlt k hk; omega
  · intro j hj
    rw [getD_snoc, getD_snoc, h.len]
    by_cases hj2 : j < l.length
    · rw [if_pos hj2, if_pos hj2]; exact h.each j hj2
    · have : j = l.length := by simp at hj; omega
      rw [if_neg hj2, if_neg hj2, if_pos this, if_pos this]
      exact hr
/-- an append behind a guard that holds, in a region that draws -/
theorem step_appWW {α : Type} {E : El α} (hE : E.Ok) {w : World} {ops : Array Oper} {o : Oper} {a : Act} {K : Act → World → Prop} {Q : Exit → Act → World → Prop} {Ep : Prop} (hgd : Region.wanted o (yielded ops a.tmps) = true) (s x : Operand)
    (ho : o.op = .call { callee := .builtin .append, args := #[s, x], argTypes := #[E.t, E.t] })
    (oa : Option Addr) (n c : Nat) (xs : List α) (hs : a.eval s = .slice oa n c) (hn : n = xs.length) (hown : Own E w oa c xs)
    (ox : Option Addr) (m d : Nat) (news : List α) (hx : a.eval x = .slice ox m d) (hm : m = news.length) (hd : ox = none → d = 0) (hrow : Row E w ox news)
    (hb : (xs.length + news.length) * E.nb ≤ 140737488355328) (hb2 : xs.length + news.length ≤ 140737488355328)
    (h : ∀ o' c' w', Own E w' o' c' (xs ++ news) → Ap w oa o' w' → K (a.put o.dst (.slice o' (n + m) c')) w') :
    if Region.wanted o (yielded ops a.tmps) = true then Oper.wp Tryz.prog o a w K Q else Ep := by
  rw [if_pos hgd]
  subst hn hm
  obtain ⟨o', c', w', hr, h1, h2⟩ := run_app hE w o.type oa c xs hown ox d news hd hrow hb hb2
  unfold Oper.wp execOp
  simp only [ho, resolve, invoke, builtin, Sem.run_bind, Sem.run_pure, Result.andThen_ok, List.map_toArray, List.map_cons, List.map_nil, hs, hx, hr]
  exact h o' c' w' h1 h2

/-- what lies in another block stays -/
theorem row_far {W W' : World} {g gv : Nat} {o' : Option Addr} {v : CV} (h : Row CE W (some ⟨gv, 0, none⟩) [v]) (hne : gv ≠ g) (hlt : gv < W.heap.size) (hap : Ap W (some ⟨g, 0, none⟩) o' W') : Row CE W' (some ⟨gv, 0, none⟩) [v] := by
  have hk : Keeps (inO (some ⟨g, 0, none⟩)) W W' := by
    rcases hap with ⟨_, x⟩ | ⟨_, x⟩
    · exact x
    · exact x.of_no
  exact h.keeps hk (fun k hk hi => by have := in_some hk; have := in_some hi; omega)
theorem tx_nil_new (n : Nm) : ts n (tx []) = Dk.new := rfl
/-- one block written over, in both alike -/
theorem keeps_both {a b a' b' : World} {L : Nat} {o : Obj} (h : Keeps no a b) (ha : Keeps (eqA L) a a') (hb : Keeps (eqA L) b b') (hs : a'.heap.size = a.heap.size) (h1 : a'.heap[L]? = some o) (h2 : b'.heap[L]? = some o) : Keeps no a' b' := by
  refine ⟨by rw [hb.os, h.os, ha.os], by rw [hb.tape, h.tape, ha.tape], by rw [hb.output, h.output, ha.output], by rw [hs]; exact Nat.le_trans h.size hb.size, fun k hk _ => ?_⟩
  by_cases e : k = L
  · subst e; rw [h1, h2]
  · rw [hs] at hk
    rw [hb.block k (Nat.lt_of_lt_of_le hk h.size) (fun x => e x), h.block k hk (fun x => x), ha.block k hk (fun x => e x)]
theorem TlS.both {w0 w1 W B X : World} {p : Nat} {F : Nat → Prop} {n : Nm} {ow : Option Addr} {cw : Nat} {vs : List CV} {l : List Rec} {L : Nat} {o : Obj} (h : TlS w0 w1 W p F n ow cw vs l) (hL : L < w1.heap.size) (ha : Keeps (eqA L) w1 B) (hb : Keeps (eqA L) W X) (hs : B.heap.size = w1.heap.size) (h1 : B.heap[L]? = some o) (h2 : X.heap[L]? = some o) : TlS w0 B X p F n ow cw vs l :=
  ⟨⟨h.dn.is.keeps hb (fun k hF e => by have := h.dn.new k hF; unfold eqA at e; omega), fun k hF => by rw [hs]; exact h.dn.new k hF, keeps_both h.dn.kept ha hb hs h1 h2⟩,
    h.own.keeps hb (fun k hk e => by have := h.new k hk; unfold eqA at e; omega), fun k hk => by rw [hs]; exact h.new k hk, h.far, h.len, h.each, h.good⟩
/-- behind the choice of the last record -/
structure TlR (w B X : World) (p : Nat) (F : Nat → Prop) (n : Nm) (ow : Option Addr) (cw : Nat) (vs : List CV) (l : List Rec) (L : Nat) (v : CV) (r : Rec) (ob : Option Addr) (cb : Nat) : Prop where
  tl : TlS w B X p F n ow cw vs l
  kb : Keeps no w B
  tab : TabIn B
  blk : X.heap[L]? = some (.cells #[.int .i64 v.k, .int .u64 (v.i : Nat), .slice v.op v.np v.cp, .slice v.ok v.nk v.ck] 54 (0, 0))
  lt : L < B.heap.size
  isC : IsC B v r
  gd : Gd r
  bo : Owns X ob cb (enc r)
  bf : ∀ k, inO ob k → ¬ F k
end Go.Proofs.YtoijeipoblnliaaGreatDoor
