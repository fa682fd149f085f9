/- RecordTails: rows of records, their ends; what its first loop holds. -/
import Derived.Test.YtdalheeifgampaaDoorFp
import Derived.Test.YtdalheeifgampaaDoorLT
namespace Go.Proofs.YtdalheeifgampaaDoor
open Go.RowKit Go.Sort Orl Pk
set_option linter.unusedVariables false
set_option linter.unusedSimpArgs false

def BE : El Nat := ⟨5, 34, 1, 1, fun c => [.int .u8 (c : Nat)]⟩
theorem okB : BE.Ok := by
  obtain ⟨i0, hi, hz0, hz1, hz2⟩ := info_parts info5
  exact ⟨fun _ => rfl, fun x u hu => by simp [BE] at hu; subst hu; rfl, by decide, Tryd.underlying34, i0, _, hi, hz0, hz1, hz2, rfl⟩
theorem cells_BN (bs : List Nat) : BE.cells bs = vals bs := by
  induction bs with
  | nil => rfl
  | cons x r ih =>
    simp only [El.cells, BE, List.flatMap_cons, vals, List.map_cons] at ih ⊢
    rw [ih]; rfl
theorem ownB_iff (w : World) (o : Option Addr) (c : Nat) (bs : List Nat) : Own BE w o c bs ↔ Owns w o c bs := by
  unfold Own Owns; rw [cells_BN]; exact Iff.rfl

def IE : El Int := ⟨3, 47, 1, 8, fun z => [.int .i64 z]⟩
theorem info3 : (Tryd.prog.info? 3).map (fun i => (i.zero, i.size, i.bytes)) = some (some (.int .i64 0), 1, 8) := by kernel_rfl
theorem okI : IE.Ok := by
  obtain ⟨i0, hi, hz0, hz1, hz2⟩ := info_parts info3
  exact ⟨fun _ => rfl, fun x u hu => by simp [IE] at hu; subst hu; rfl, by decide, Tryd.underlying47, i0, _, hi, hz0, hz1, hz2, rfl⟩
theorem Sl.atI {w : World} {a : Option Addr} {c : Nat} {xs : List Int} (h : Sl IE w a c xs) {j : Nat} (hj : j < xs.length) : ∃ b off, a = some ⟨b, off, none⟩ ∧ w.cell? ⟨b, off + j, none⟩ = some (.int .i64 (xs.getD j 0)) := by
  rcases h.row with e | ⟨b, off, rfl, hc⟩
  · subst e; simp at hj
  · refine ⟨b, off, rfl, hc j _ ?_⟩
    have := cells_at okI 0 xs j 0 hj (by decide)
    simpa [IE] using this
theorem Sl.atC {w : World} {a : Option Addr} {c : Nat} {xs : List CV} (h : Sl CE w a c xs) {j : Nat} (hj : j < xs.length) : ∃ b off, a = some ⟨b, off, none⟩ ∧ w.cell? ⟨b, off + j * 4, none⟩ = some (.int .i64 (xs.getD j cv0).k) ∧ w.cell? ⟨b, off + j * 4 + 1, none⟩ = some (.int .u64 ((xs.getD j cv0).i : Nat)) ∧ w.cell? ⟨b, off + j * 4 + 2, none⟩ = some (.slice (xs.getD j cv0).op (xs.getD j cv0).np (xs.getD j cv0).cp) ∧ w.cell? ⟨b, off + j * 4 + 3, none⟩ = some (.slice (xs.getD j cv0).ok (xs.getD j cv0).nk (xs.getD j cv0).ck) := by
  rcases h.row with e | ⟨b, off, rfl, hc⟩
  · subst e; simp at hj
  · refine ⟨b, off, rfl, hc (j * 4) _ ?_, ?_, ?_, ?_⟩
    · have := cells_at okC cv0 xs j 0 hj (by decide)
      simpa [CE] using this
    all_goals rw [Nat.add_assoc]
    · refine hc (j * 4 + 1) _ ?_
      have := cells_at okC cv0 xs j 1 hj (by decide)
      simpa [CE] using this
    · refine hc (j * 4 + 2) _ ?_
      have := cells_at okC cv0 xs j 2 hj (by decide)
      simpa [CE] using this
    · refine hc (j * 4 + 3) _ ?_
      have := cells_at okC cv0 xs j 3 hj (by decide)
      simpa [CE] using this
theorem Sl.atQ {w : World} {a : Option Addr} {c : Nat} {xs : List PV} (h : Sl QE w a c xs) {j : Nat} (hj : j < xs.length) : ∃ b off, a = some ⟨b, off, none⟩ ∧ w.cell? ⟨b, off + j * 5, none⟩ = some (.bool (xs.getD j pv0).cmt) ∧ w.cell? ⟨b, off + j * 5 + 1, none⟩ = some (.int .u64 ((xs.getD j pv0).id : Nat)) ∧ w.cell? ⟨b, off + j * 5 + 2, none⟩ = some (.slice (xs.getD j pv0).o (xs.getD j pv0).n (xs.getD j pv0).c) ∧ w.cell? ⟨b, off + j * 5 + 3, none⟩ = some (.int .u64 ((xs.getD j pv0).sm : Nat)) ∧ w.cell? ⟨b, off + j * 5 + 4, none⟩ = some (.string (xs.getD j pv0).val) := by
  rcases h.row with e | ⟨b, off, rfl, hc⟩
  · subst e; simp at hj
  · refine ⟨b, off, rfl, hc (j * 5) _ ?_, ?_, ?_, ?_, ?_⟩
    · have := cells_at okQ pv0 xs j 0 hj (by decide)
      simpa [QE] using this
    all_goals rw [Nat.add_assoc]
    · refine hc (j * 5 + 1) _ ?_
      have := cells_at okQ pv0 xs j 1 hj (by decide)
      simpa [QE] using this
    · refine hc (j * 5 + 2) _ ?_
      have := cells_at okQ pv0 xs j 2 hj (by decide)
      simpa [QE] using this
    · refine hc (j * 5 + 3) _ ?_
      have := cells_at okQ pv0 xs j 3 hj (by decide)
      simpa [QE] using this
    · refine hc (j * 5 + 4) _ ?_
      have := cells_at okQ pv0 xs j 4 hj (by decide)
      simpa [QE] using this

/-! ### rows of records -/
def rowb (l : List Rec) : List Nat := l.flatMap enc
theorem rowb_snoc (l : List Rec) (r : Rec) : rowb (l ++ [r]) = rowb l ++ enc r := by simp [rowb]
/-- where each ends -/
def ends : List Rec → Nat → List Int
  | [], _ => []
  | r :: l, k => ((k + (enc r).length : Nat) : Int) :: ends l (k + (enc r).length)
theorem ends_length (l : List Rec) : ∀ k, (ends l k).length = l.length := by
  induction l with
  | nil => intro k; rfl
  | cons r l ih => intro k; simp [ends, ih]
theorem ends_snoc (l : List Rec) (r : Rec) : ∀ k, ends (l ++ [r]) k = ends l k ++ [((k + (rowb l).length + (enc r).length : Nat) : Int)] := by
  induction l with
  | nil => intro k; simp [ends, rowb]
  | cons x l ih =>
    intro k
    simp only [List.cons_append, ends, ih]
    have : (rowb (x :: l)).length = (enc x).length + (rowb l).length := by simp [rowb]
    rw [this]
    congr 4
    omega
theorem ends_getD (l : List Rec) : ∀ (k j : Nat), j < l.length → (ends l k).getD j 0 = ((k + (rowb (l.take (j + 1))).length : Nat) : Int) := by
  induction l with
  | nil => intro k j hj; simp at hj
  | cons r l ih =>
    intro k j hj
    cases j with
    | zero => simp [ends, rowb]
    | succ j =>
      have := ih (k + (enc r).length) j (by simpa using hj)
      simp only [ends, List.getD_cons_succ]
      rw [this]
      simp [rowb]
      omega
structure Good (l : List Rec) : Prop where
  each : ∀ r ∈ l, may r = true ∧ r.id < 18446744073709551616 ∧ (body r).length ≤ 100000
theorem Good.snoc {l : List Rec} {r : Rec} (h : Good l) (hr : may r = true ∧ r.id < 18446744073709551616 ∧ (body r).length ≤ 100000) : Good (l ++ [r]) := ⟨fun x hx => by
  rcases List.mem_append.1 hx with hx | hx
  · exact h.each x hx
  · rw [List.mem_singleton.1 hx]; exact hr⟩
theorem rowb_byt (l : List Rec) : ∀ c ∈ rowb l, c < 256 := by
  intro c hc
  unfold rowb at hc
  obtain ⟨r, _, hr⟩ := List.mem_flatMap.1 hc
  exact enc_byt r c hr
theorem rowb_len {l : List Rec} (h : Good l) : (rowb l).length ≤ l.length * 100008 := by
  obtain ⟨h⟩ := h
  induction l with
  | nil => simp [rowb]
  | cons r l ih =>
    have h1 := ih (fun x hx => h x (List.mem_cons_of_mem _ hx))
    have h2 := (h r List.mem_cons_self).2.2
    have h3 := enc_length r
    have : (rowb (r :: l)).length = (enc r).length + (rowb l).length := by simp [rowb]
    rw [this, List.length_cons, Nat.add_mul]; omega
theorem rowb_split (l : List Rec) (q : Nat) (hq : q < l.length) : rowb l = rowb (l.take q) ++ (enc (l.getD q c0) ++ rowb (l.drop (q + 1))) := by
  have e : l = l.take q ++ (l.getD q c0 :: l.drop (q + 1)) := by
    have h1 := List.take_append_drop q l
    have h2 : l.drop q = l.getD q c0 :: l.drop (q + 1) := by rw [List.drop_eq_getElem_cons hq]; simp [List.getD_eq_getElem?_getD, hq]
    rw [h2] at h1; exact h1.symm
  conv => lhs; rw [e]
  simp [rowb]
theorem rowb_take_succ (l : List Rec) (q : Nat) (hq : q < l.length) : rowb (l.take (q + 1)) = rowb (l.take q) ++ enc (l.getD q c0) := by
  rw [take_succ_getD l q c0 hq, rowb_snoc]
/-- cut off anywhere: those that are wholly in it -/
theorem tails_run {l : List Rec} (h : Good l) {n : Nat} (hn : n ≤ (rowb l).length) : ∀ q, q ≤ l.length → (rowb (l.take q)).length ≤ n → Run ((rowb l).take n) (l.take q) (rowb (l.take q)).length
  | 0, _, _ => by simp [rowb]; exact Run.nil
  | q + 1, hq, hl => by
    have hs := rowb_take_succ l q hq
    have hl2 : (rowb (l.take q)).length + (enc (l.getD q c0)).length ≤ n := by rw [hs, List.length_append] at hl; exact hl
    have ih := tails_run h hn q (by omega) (by omega)
    have hg := h.each (l.getD q c0) (getD_mem_lt c0 hq)
    have hp : parse (((rowb l).take n).drop (rowb (l.take q)).length) = (l.getD q c0, (enc (l.getD q c0)).length, 0) := by
      rw [List.drop_take, rowb_split l q hq, List.drop_left, List.take_append, List.take_of_length_le (by omega)]
      exact parse_enc _ hg.1 hg.2.1 (by omega) (sum_body _) _
    have := Run.snoc ih hp
    rw [take_succ_getD l q c0 hq, rowb_snoc, List.length_append]
    exact this
theorem tails_torn {l : List Rec} (h : Good l) {n : Nat} (hn : n ≤ (rowb l).length) {q : Nat} (hq : q ≤ l.length) (hl : (rowb (l.take q)).length ≤ n) (hnext : q < l.length → n < (rowb (l.take (q + 1))).length) : parse (((rowb l).take n).drop (rowb (l.take q)).length) = (c0, 0, 91) := by
  by_cases hql : q < l.length
  · have h1 := hnext hql
    rw [rowb_take_succ l q hql, List.length_append] at h1
    have hg := h.each (l.getD q c0) (getD_mem_lt c0 hql)
    rw [List.drop_take, rowb_split l q hql, List.drop_left, List.take_append_of_le_length (by omega)]
    exact parse_cut _ (by omega) _ (by omega)
  · have hqe : q = l.length := by omega
    subst hqe
    rw [List.take_length] at hl ⊢
    rw [List.drop_eq_nil_of_le (by rw [List.length_take]; omega)]
    exact parse_short (by simp)

/-! ### what the first loop holds -/
theorem Owns.asideB {β : Type} {F : El β} (hne : (5 : TypeId) ≠ F.e) {w w' : World} {oa : Option Addr} {ca : Nat} {bs : List Nat} {o : Option Addr} {c : Nat} {ys : List β} (h : Own F w o c ys) (hO : Owns w oa ca bs) (hk : Keeps (inO oa) w w') : Own F w' o c ys :=
  h.keeps hk (fun j hj hi => own_ne (E := BE) hne ((ownB_iff w oa ca bs).2 hO) h j hi hj)
theorem Owns.asideE {α : Type} {E : El α} (hne : E.e ≠ 5) {w w' : World} {oa : Option Addr} {ca : Nat} {xs : List α} {o' o : Option Addr} {c : Nat} {bs : List Nat} (h : Owns w o c bs) (hO : Own E w oa ca xs) (hap : Ap w oa o' w') : Owns w' o c bs :=
  (ownB_iff _ _ _ _).1 (((ownB_iff w o c bs).2 h).aside (E := E) (F := BE) hne hO hap)
structure Tl (w W : World) (oa : Option Addr) (ca : Nat) (oe : Option Addr) (ce : Nat) (orr : Option Addr) (cr : Nat) (l : List Rec) (vs : List CV) : Prop where
  a : Owns W oa ca (rowb l)
  e : Own IE W oe ce (ends l 0)
  r : Own CE W orr cr vs
  an : New w oa
  en : New w oe
  rn : New w orr
  len : vs.length = l.length
  each : ∀ j, j < l.length → Got w W (vs.getD j cv0) (l.getD j c0)
  good : Good l
  kp : Keeps no w W
theorem Got.asideB {w W W' : World} {v : CV} {r : Rec} (h : Got w W v r) {oa : Option Addr} {ca : Nat} {bs : List Nat} (hO : Owns W oa ca bs) (hk : Keeps (inO oa) W W') : Got w W' v r :=
  ⟨h.k, h.i, h.np, h.nk, Owns.asideB (by decide) h.ps hO hk, Owns.asideB (by decide) h.ks hO hk, h.pn, h.kn, h.fit⟩
theorem Got.asideE {α : Type} {E : El α} (h1 : E.e ≠ 33) (h2 : E.e ≠ 9) {w W W' : World} {v : CV} {r : Rec} (h : Got w W v r) {oa o' : Option Addr} {ca : Nat} {xs : List α} (hO : Own E W oa ca xs) (hap : Ap W oa o' W') : Got w W' v r :=
  ⟨h.k, h.i, h.np, h.nk, h.ps.aside (E := E) (F := PE) h1 hO hap, h.ks.aside (E := E) (F := TE) h2 hO hap, h.pn, h.kn, h.fit⟩
theorem Ap.keepsW {w0 w w' : World} {oa o' : Option Addr} (h : Ap w oa o' w') (hn : New w0 oa) (hk : Keeps no w0 w) : Keeps no w0 w' := (h.new hn hk).2
/-- one record more: three appends, other blocks between them -/
theorem Tl.push {w W W1 W2 W3 W4 W5 W6 : World} {oa : Option Addr} {ca : Nat} {oe : Option Addr} {ce : Nat} {orr : Option Addr} {cr : Nat} {l : List Rec} {vs : List CV} (h : Tl w W oa ca oe ce orr cr l vs) {v : CV} {r : Rec} (k1 : Keeps no W W1) (hG : Got W W1 v r) (hr : may r = true ∧ r.id < 18446744073709551616 ∧ (body r).length ≤ 100000)
    {oa' : Option Addr} {ca' : Nat} (h2 : Owns W2 oa' ca' (rowb l ++ enc r)) (fr2 : Fresh W1 oa oa') (k2 : Keeps (inO oa) W1 W2) (k3 : Keeps no W2 W3)
    {oe' : Option Addr} {ce' : Nat} (h4 : Own IE W4 oe' ce' (ends l 0 ++ [(((rowb l).length + (enc r).length : Nat) : Int)])) (ap4 : Ap W3 oe oe' W4) (k5 : Keeps no W4 W5)
    {orr' : Option Addr} {cr' : Nat} (h6 : Own CE W6 orr' cr' (vs ++ [v])) (ap6 : Ap W5 orr orr' W6) : Tl w W6 oa' ca' oe' ce' orr' cr' (l ++ [r]) (vs ++ [v]) := by
  have a1 := h.a.keeps k1 (fun _ _ h => h)
  have e3 : Own IE W3 oe ce (ends l 0) := (Owns.asideB (by decide) (h.e.keepsN k1) a1 k2).keepsN k3
  have r5 : Own CE W5 orr cr vs := (((Owns.asideB (by decide) (h.r.keepsN k1) a1 k2).keepsN k3).aside (E := IE) (F := CE) (by decide) e3 ap4).keepsN k5
  have kw1 := h.kp.trans k1
  have na := fr2.new k2 h.an kw1
  have kw3 := na.2.trans k3
  have ne := ap4.new h.en kw3
  have kw5 := ne.2.trans k5
  have nr := ap6.new h.rn kw5
  have gg : ∀ {v : CV} {r : Rec}, Got w W1 v r → Got w W6 v r := fun g =>
    ((((g.asideB a1 k2).keepsN k3).asideE (E := IE) (by decide) (by decide) e3 ap4).keepsN k5).asideE (E := CE) (by decide) (by decide) r5 ap6
  refine ⟨?_, ?_, h6, na.1, ne.1, nr.1, by simp [h.len], ?_, h.good.snoc hr, nr.2⟩
  · rw [rowb_snoc]
    exact Owns.asideE (E := CE) (by decide) ((Owns.asideE (E := IE) (by decide) (h2.keeps k3 (fun _ _ h => h)) e3 ap4).keeps k5 (fun _ _ h => h)) r5 ap6
  · rw [ends_snoc, Nat.zero_add]
    exact (h4.keepsN k5).aside (E := CE) (F := IE) (by decide) r5 ap6
  · intro j hj
    rw [getD_snoc, getD_snoc, h.len]
    by_cases hj2 : j < l.length
    · rw [if_pos hj2, if_pos hj2]
      exact gg ((h.each j hj2).keepsN k1)
    · have : j = l.length := by simp at hj; omega
      rw [if_neg hj2, if_neg hj2, if_pos this, if_pos this]
      exact gg (hG.of_le h.kp.size)
end Go.Proofs.YtdalheeifgampaaDoor
