import Derived.Test.YtileipnoiocdlaaX6
import Derived.Test.YtileipnoiocdlaaRR
import Derived.Test.YtileipnoiocdlaaRU
import Derived.Test.YtileipnoiocdlaaX2
/- What 'run' ends in: whatever the order, and with or without the versions that are gone. -/
namespace Go.Proofs.Ytileipnoiocdlaa
open Go.RowKit Go.Sort Orl
set_option linter.unusedVariables false
set_option linter.unusedSimpArgs false

/-- the second round's beginning -/
noncomputable def secS (P : Nat) (ws : List Wr) (fr : Nat) (s1 : RS) (t1 : Nat) : RS := fetS (finS s1 (ansF P ws 0 s1)) (needsV (came1 P ws s1)) (came1 P ws s1) fr 1 t1
theorem run_form {P : Nat} {ws : List Wr} (hw : GoodW ws) {s1 : RS} (hp : Pend s1 1) {g fr t1 k : Nat} {s : RS} {t : Nat} {all : List Qn} (h : RunAt P ws g fr s1 t1 k s t [] all) :
    (needsV (came1 P ws s1) = [] ∧ s = endS (finS s1 (ansF P ws 0 s1)) 1 (came1 P ws s1) ∧ all = askedR s1) ∨
    (¬ needsV (came1 P ws s1) = [] ∧ s = endS2 (finS (secS P ws fr s1 t1) (ansF P ws g (secS P ws fr s1 t1))) ∧ all = askedR s1 ++ askedR (secS P ws fr s1 t1)) := by
  have er : rndO P ws g fr s1 t1 = _ := first_end hw hp g fr 1 t1
  obtain ⟨o, ho⟩ : ∃ o, o = ([] : List Qn) := ⟨_, rfl⟩
  rw [← ho] at h
  by_cases hn : needsV (came1 P ws s1) = []
  · rw [if_pos hn] at er
    left
    cases h with
    | start => exact absurd ho (pend_asked hp)
    | mid hh => rw [er] at hh; exact absurd hh (by show ¬ 1 = 0; decide)
    | fin1 hh => exact ⟨hn, by rw [er], rfl⟩
    | fin2 hh => rw [er] at hh; exact absurd hh (by show ¬ 1 = 0; decide)
  · rw [if_neg hn] at er
    right
    have hp2 := (second_pend hw hp hn fr 1 t1).1
    have es : (rndO P ws g fr s1 t1).s = secS P ws fr s1 t1 := by rw [er]; rfl
    have hp3 : Pend (secS P ws fr s1 t1) 2 := hp2
    cases h with
    | start => exact absurd ho (pend_asked hp)
    | mid hh => rw [es] at ho; exact absurd ho (pend_asked hp3)
    | fin1 hh => rw [es] at hh; exact absurd hp3.en hh
    | fin2 hh =>
      rw [es]
      refine ⟨hn, ?_, rfl⟩
      generalize (rndO P ws g fr s1 t1).t = t2
      unfold rndO behindO
      rw [if_pos (fin_undone _ hp3.p1), if_neg (show ¬ (finS (secS P ws fr s1 t1) (ansF P ws g (secS P ws fr s1 t1))).round = 1 by show ¬ (secS P ws fr s1 t1).round = 1; rw [hp3.rd]; decide)]
/-- the order is nothing -/
theorem run_same {P : Nat} {ws : List Wr} (hw : GoodW ws) {s1 : RS} (hp : Pend s1 1) {g fr t1 k k' : Nat} {s s' : RS} {t t' : Nat} {all all' : List Qn} (h : RunAt P ws g fr s1 t1 k s t [] all) (h' : RunAt P ws g fr s1 t1 k' s' t' [] all') : s = s' ∧ all = all' := by
  rcases run_form hw hp h with ⟨a1, a2, a3⟩ | ⟨a1, a2, a3⟩ <;> rcases run_form hw hp h' with ⟨b1, b2, b3⟩ | ⟨b1, b2, b3⟩
  · exact ⟨a2.trans b2.symm, a3.trans b3.symm⟩
  · exact absurd a1 b1
  · exact absurd b1 a1
  · exact ⟨a2.trans b2.symm, a3.trans b3.symm⟩
/-- and with nothing gone it ends well -/
theorem run_ends {P : Nat} {ws : List Wr} (hw : GoodW ws) {s1 : RS} (hp : Pend s1 1) {g fr t1 k k0 : Nat} {s s0 : RS} {t t0 : Nat} {all all0 : List Qn} (h : RunAt P ws g fr s1 t1 k s t [] all) (h0 : RunAt P ws 0 fr s1 t1 k0 s0 t0 [] all0) :
    all = all0 ∧ s0.ended = 1 ∧ ((s.ended = 1 ∧ s.out = s0.out) ∨ (s.ended = 2 ∧ s.out = [] ∧ 0 < g)) := by
  rcases run_form hw hp h with ⟨a1, a2, a3⟩ | ⟨a1, a2, a3⟩ <;> rcases run_form hw hp h0 with ⟨b1, b2, b3⟩ | ⟨b1, b2, b3⟩
  · rw [a2, b2, a3, b3]; exact ⟨rfl, rfl, .inl ⟨rfl, rfl⟩⟩
  · exact absurd a1 b1
  · exact absurd b1 a1
  · rw [a2, b2, a3, b3]
    obtain ⟨h1, h2, h3, h4⟩ := second_pend hw hp a1 fr 1 t1
    have he := second_end (P := P) (s2 := secS P ws fr s1 t1) hw h1 h2 h3 h4 (fun x hx => by obtain ⟨y, _, rfl⟩ := List.mem_map.1 hx; exact ans_ofR (P := P) 0 s1 y) (came1_formed hw hp) g
    exact ⟨rfl, he.ok, he.or⟩
end Go.Proofs.Ytileipnoiocdlaa
/- What three reads told, side by side (ReaderOrder). -/
namespace Go.Proofs.Ytileipnoiocdlaa
open Go.RowKit Go.Sort Orl
set_option linter.unusedVariables false
set_option linter.unusedSimpArgs false

theorem asked_part {s : RS} (h : s.parts ≤ 64) : (askedR s).length ≤ 64 ∧ ∀ q ∈ askedR s, 0 ≤ q.part ∧ q.part ≤ 64 := by
  have hP : (psR s).length ≤ 64 := Nat.le_trans (ps_le s) h
  refine ⟨?_, fun q hq => ?_⟩
  · rw [askedR_len]; have := undone_le s; omega
  · unfold askedR at hq
    obtain ⟨i, hi, rfl⟩ := List.mem_map.1 hq
    have hi2 : i < (psR s).length := List.mem_range.1 (List.mem_filter.1 hi).1
    have h1 := (ps_keys hi2).2.2.1
    show (0 : Int) ≤ (((psR s).getD i pp0).1 : Nat) ∧ ((((psR s).getD i pp0).1 : Nat) : Int) ≤ 64
    omega
theorem all_fit {P : Nat} {ws : List Wr} (hw : GoodW ws) {s1 : RS} (hp : Pend s1 1) (h64 : s1.parts ≤ 64) {g fr t1 k : Nat} {s : RS} {t : Nat} {all : List Qn} (h : RunAt P ws g fr s1 t1 k s t [] all) (hf : ∀ j, j < all.length → FitA (all.getD j q0)) : FitQs all := by
  have h2 : (secS P ws fr s1 t1).parts ≤ 64 := h64
  have key : all.length ≤ 200 ∧ ∀ q ∈ all, 0 ≤ q.part ∧ q.part ≤ 64 := by
    have a1 := asked_part h64
    have a2 := asked_part h2
    rcases run_form hw hp h with ⟨_, _, e⟩ | ⟨_, _, e⟩
    · rw [e]; exact ⟨by have := a1.1; omega, a1.2⟩
    · rw [e]
      refine ⟨by rw [List.length_append]; have := a1.1; have := a2.1; omega, fun q hq => ?_⟩
      rcases List.mem_append.1 hq with hq | hq
      · exact a1.2 q hq
      · exact a2.2 q hq
  refine ⟨key.1, fun q hq => ?_⟩
  obtain ⟨j, hj, e⟩ := List.getElem_of_mem hq
  have h1 := hf j hj
  have e2 : all.getD j q0 = q := by simp [List.getD_eq_getElem?_getD, hj, e]
  rw [e2] at h1
  exact ⟨key.2 q hq, h1.kl, h1.wl⟩
/-- what one of the reads told -/
structure Tg (wr : World) (Z : Nat → Prop) (s : RS) (all : List Qn) (go : Option Addr) (gn gc : Nat) (ao : Option Addr) (an ac : Nat) : Prop where
  gn : gn = (readR s).length
  fit : FitL (readR s)
  vers : ∃ rv, Vers wr go gc rv (readR s) ∧ ∀ i, VB go rv (readR s).length i → Z i
  an : an = all.length
  out : ∃ rq, OutS wr Z ao ac rq all
  fq : FitQs all
theorem Tg.keeps {S : Nat → Prop} {wr w' : World} {Z : Nat → Prop} {s : RS} {all : List Qn} {go : Option Addr} {gn gc : Nat} {ao : Option Addr} {an ac : Nat} (h : Tg wr Z s all go gn gc ao an ac) (k : Keeps S wr w') (hs : ∀ i, Z i → ¬ S i) : Tg w' Z s all go gn gc ao an ac := by
  obtain ⟨h1, h2, ⟨rv, h3, h4⟩, h5, ⟨rq, h6⟩, h7⟩ := h
  exact ⟨h1, h2, ⟨rv, h3.keeps k (fun i hi => hs i (h4 i hi)), h4⟩, h5, ⟨rq, h6.keeps k (fun i hi _ => hs i hi)⟩, h7⟩
/-- and of which read -/
def Tj (wr : World) (E P : Nat) (wf : List Wr) (s1 : RS) (t1 g : Nat) (ev : Int) (gv av : Value) : Prop :=
  ∃ k s t all go gn gc ao an ac, RunAt P wf g 1 s1 t1 k s t [] all ∧ ev = ((s.ended : Nat) : Int) ∧ gv = .slice go gn gc ∧ av = .slice ao an ac ∧ Tg wr (fun i => E + 3 ≤ i) s all go gn gc ao an ac
theorem Tj.keeps {S : Nat → Prop} {wr w' : World} {E P : Nat} {wf : List Wr} {s1 : RS} {t1 g : Nat} {ev : Int} {gv av : Value} (h : Tj wr E P wf s1 t1 g ev gv av) (k : Keeps S wr w') (hs : ∀ i, S i → i < E + 3) : Tj w' E P wf s1 t1 g ev gv av := by
  obtain ⟨k1, s, t, all, go, gn, gc, ao, an, ac, h1, h2, h3, h4, h5⟩ := h
  exact ⟨k1, s, t, all, go, gn, gc, ao, an, ac, h1, h2, h3, h4, h5.keeps k (fun i hi hS => by have := hs i hS; omega)⟩
/-- the three arrays -/
structure Ar (wr : World) (E : Nat) (ev : Nat → Int) (gv av : Nat → Value) : Prop where
  b0 : wr.heap[E]? = some (.cells #[.int .i64 (ev 0), .int .i64 (ev 1), .int .i64 (ev 2)] 70 (0, 0))
  b1 : wr.heap[E + 1]? = some (.cells #[gv 0, gv 1, gv 2] 71 (0, 0))
  b2 : wr.heap[E + 2]? = some (.cells #[av 0, av 1, av 2] 72 (0, 0))
theorem Ar.keepsN {wr w' : World} {E : Nat} {ev : Nat → Int} {gv av : Nat → Value} (h : Ar wr E ev gv av) (k : Keeps no wr w') : Ar w' E ev gv av := ⟨k.at h.b0 id, k.at h.b1 id, k.at h.b2 id⟩
theorem Ar.lt {wr : World} {E : Nat} {ev : Nat → Int} {gv av : Nat → Value} (h : Ar wr E ev gv av) : E + 3 ≤ wr.heap.size := lt_of_block h.b2
/-- behind i reads -/
structure St (w5 wr : World) (E P : Nat) (wf : List Wr) (s1 : RS) (t1 g : Nat) (ev : Nat → Int) (gv av : Nat → Value) (i : Nat) : Prop where
  kp : Keeps no w5 wr
  ge : w5.heap.size ≤ E
  ar : Ar wr E ev gv av
  tj : ∀ j, j < i → Tj wr E P wf s1 t1 (if j = 2 then 0 else g) (ev j) (gv j) (av j)
def upd {α : Type} (f : Nat → α) (i : Nat) (x : α) : Nat → α := fun j => if j = i then x else f j
def arS (E : Nat) (i : Nat) : Prop := i = E ∨ i = E + 1 ∨ i = E + 2
/-- one more read: what it told is written into the arrays -/
theorem St.next {w5 wr w' : World} {E P : Nat} {wf : List Wr} {s1 : RS} {t1 g : Nat} {ev : Nat → Int} {gv av : Nat → Value} {i : Nat} (h : St w5 wr E P wf s1 t1 g ev gv av i) (k : Keeps (arS E) wr w') {e : Int} {x y : Value} (ha : Ar w' E (upd ev i e) (upd gv i x) (upd av i y)) (ht : Tj w' E P wf s1 t1 (if i = 2 then 0 else g) e x y) : St w5 w' E P wf s1 t1 g (upd ev i e) (upd gv i x) (upd av i y) (i + 1) := by
  refine ⟨h.kp.then k (fun q hq => .inr ?_), h.ge, ha, fun j hj => ?_⟩
  · have := h.ge
    rcases hq with rfl | rfl | rfl <;> omega
  · unfold upd
    by_cases hji : j = i
    · subst hji
      rw [if_pos rfl, if_pos rfl, if_pos rfl]
      exact ht
    · rw [if_neg hji, if_neg hji, if_neg hji]
      exact (h.tj j (by omega)).keeps k (fun q hq => by rcases hq with rfl | rfl | rfl <;> omega)
def Lv (w : World) (o : Option Addr) (n c : Nat) (vs : List Ver) : Prop := n = vs.length ∧ FitL vs ∧ ∃ rv, Vers w o c rv vs
def Lq (w : World) (o : Option Addr) (n c : Nat) (qs : List Qn) : Prop := n = qs.length ∧ FitQs qs ∧ ∃ rq, Qs w o c rq qs
theorem Tg.lv {wr : World} {Z : Nat → Prop} {s : RS} {all : List Qn} {go : Option Addr} {gn gc : Nat} {ao : Option Addr} {an ac : Nat} (h : Tg wr Z s all go gn gc ao an ac) : Lv wr go gn gc (readR s) := ⟨h.gn, h.fit, by obtain ⟨rv, h1, _⟩ := h.vers; exact ⟨rv, h1⟩⟩
theorem Tg.lq {wr : World} {Z : Nat → Prop} {s : RS} {all : List Qn} {go : Option Addr} {gn gc : Nat} {ao : Option Addr} {an ac : Nat} (h : Tg wr Z s all go gn gc ao an ac) : Lq wr ao an ac all := ⟨h.an, h.fq, by obtain ⟨rq, h1⟩ := h.out; exact ⟨rq, h1.own.sl, h1.len, fun j hj => (h1.each j hj).of⟩⟩
theorem Lv.same {w : World} {oa ob : Option Addr} {na ca nb cb : Nat} {vs : List Ver} (ha : Lv w oa na ca vs) (hb : Lv w ob nb cb vs) (Y : World) (k : Keeps no w Y) : Calls Try.prog 17 #[.slice oa na ca, .slice ob nb cb] Y fun e w' => e = .returned (.bool true) ∧ Keeps no Y w' := by
  obtain ⟨a1, a2, ra, a3⟩ := ha
  obtain ⟨b1, b2, rb, b3⟩ := hb
  have h := sameV_any Y oa na ca ob nb cb ra rb vs vs a1 b1 a2 b2 (a3.keepsN k) (b3.keepsN k)
  rwa [decide_eq_true rfl] at h
theorem Lq.same {w : World} {oa ob : Option Addr} {na ca nb cb : Nat} {qs : List Qn} (ha : Lq w oa na ca qs) (hb : Lq w ob nb cb qs) (Y : World) (k : Keeps no w Y) : Calls Try.prog 12 #[.slice oa na ca, .slice ob nb cb] Y fun e w' => e = .returned (.bool true) ∧ Keeps no Y w' := by
  obtain ⟨a1, a2, ra, a3⟩ := ha
  obtain ⟨b1, b2, rb, b3⟩ := hb
  have h := samePosts_any Y oa na ca ob nb cb ra rb qs qs a1 b1 a2 b2 (a3.keepsN k) (b3.keepsN k)
  rwa [decide_eq_true rfl] at h
theorem readR_one {s : RS} (h : s.ended = 1) : readR s = s.out := by unfold readR; rw [if_pos h]
theorem readR_ne {s : RS} (h : s.ended = 2) : readR s = [] := by unfold readR; rw [if_neg (by omega)]
/-- what the law asks of the three -/
structure End3 (wr : World) (g : Nat) (ev : Nat → Int) (gv av : Nat → Value) (e : Int) (go : Option Addr) (gn gc : Nat) (g1 : Option Addr) (g1n g1c : Nat) (g2 : Option Addr) (g2n g2c : Nat) (ao : Option Addr) (an ac : Nat) (a1 : Option Addr) (a1n a1c : Nat) (a2 : Option Addr) (a2n a2c : Nat) : Prop where
  e0 : ev 0 = e
  e1 : ev 1 = e
  e2 : ev 2 = 1
  y0 : gv 0 = .slice go gn gc
  y1 : gv 1 = .slice g1 g1n g1c
  y2 : gv 2 = .slice g2 g2n g2c
  z0 : av 0 = .slice ao an ac
  z1 : av 1 = .slice a1 a1n a1c
  z2 : av 2 = .slice a2 a2n a2c
  v01 : ∀ Y, Keeps no wr Y → Calls Try.prog 17 #[.slice go gn gc, .slice g1 g1n g1c] Y fun e w' => e = .returned (.bool true) ∧ Keeps no Y w'
  q01 : ∀ Y, Keeps no wr Y → Calls Try.prog 12 #[.slice ao an ac, .slice a1 a1n a1c] Y fun e w' => e = .returned (.bool true) ∧ Keeps no Y w'
  q02 : ∀ Y, Keeps no wr Y → Calls Try.prog 12 #[.slice ao an ac, .slice a2 a2n a2c] Y fun e w' => e = .returned (.bool true) ∧ Keeps no Y w'
  or : (e = 1 ∧ ∀ Y, Keeps no wr Y → Calls Try.prog 17 #[.slice go gn gc, .slice g2 g2n g2c] Y fun e w' => e = .returned (.bool true) ∧ Keeps no Y w') ∨ (e = 2 ∧ gn = 0 ∧ 0 < g)
theorem St.end3 {w5 wr : World} {E P : Nat} {wf : List Wr} {s1 : RS} {t1 g : Nat} {ev : Nat → Int} {gv av : Nat → Value} (h : St w5 wr E P wf s1 t1 g ev gv av 3) (hw : GoodW wf) (hp : Pend s1 1) :
    ∃ e go gn gc g1 g1n g1c g2 g2n g2c ao an ac a1 a1n a1c a2 a2n a2c, End3 wr g ev gv av e go gn gc g1 g1n g1c g2 g2n g2c ao an ac a1 a1n a1c a2 a2n a2c := by
  have h0 := h.tj 0 (by decide)
  have h1 := h.tj 1 (by decide)
  have h2 := h.tj 2 (by decide)
  rw [if_neg (by decide)] at h0 h1
  rw [if_pos rfl] at h2
  obtain ⟨k0, s0, u0, all0, go, gn, gc, ao, an, ac, r0, x0, y0, z0, q0⟩ := h0
  obtain ⟨k1, sB, u1, all1, g1, g1n, g1c, a1, a1n, a1c, r1, x1, y1, z1, q1⟩ := h1
  obtain ⟨k2, s2, u2, all2, g2, g2n, g2c, a2, a2n, a2c, r2, x2, y2, z2, q2⟩ := h2
  obtain ⟨rfl, rfl⟩ := run_same hw hp r0 r1
  obtain ⟨rfl, n1, hor⟩ := run_ends hw hp r0 r2
  refine ⟨ev 0, go, gn, gc, g1, g1n, g1c, g2, g2n, g2c, ao, an, ac, a1, a1n, a1c, a2, a2n, a2c, rfl, by rw [x1, x0], by rw [x2, n1]; rfl, y0, y1, y2, z0, z1, z2, q0.lv.same q1.lv, q0.lq.same q1.lq, q0.lq.same q2.lq, ?_⟩
  rcases hor with ⟨n0, he⟩ | ⟨n0, he, hg⟩
  · left
    refine ⟨by rw [x0, n0]; rfl, ?_⟩
    have e0 : readR s0 = readR s2 := by rw [readR_one n0, readR_one n1, he]
    have hl := q0.lv
    rw [e0] at hl
    exact hl.same q2.lv
  · right
    refine ⟨by rw [x0, n0]; rfl, ?_, hg⟩
    rw [q0.gn, readR_ne n0]; rfl
end Go.Proofs.Ytileipnoiocdlaa
