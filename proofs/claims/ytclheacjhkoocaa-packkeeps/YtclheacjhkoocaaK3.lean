import Derived.Test.YtclheacjhkoocaaK2
namespace Go.Proofs.Ytclheacjhkoocaa
open Go.RowKit
open Pk
set_option linter.unusedVariables false
set_option linter.unusedSimpArgs false

set_option maxRecDepth 10000 in
theorem sameTexts_q (w : World) (oa : Option Addr) (na ca : Nat) (ob : Option Addr) (nb cb : Nat) (sa sb : List ByteArray) (hna : na = sa.length) (hnb : nb = sb.length) (hla : na ≤ 140737488355328) (hlb : nb ≤ 140737488355328) (ha : RowS w oa sa) (hb : RowS w ob sb) :
    Calls Try.prog 13 #[.slice oa na ca, .slice ob nb cb] w fun e w' => (∃ B : Bool, e = .returned (.bool B) ∧ Hid (sa = sb → B = true)) ∧ ∃ m, w' = w.drewN m := by
  have HA : Hid (na = sa.length) := hna
  have HB : Hid (nb = sb.length) := hnb
  clear hna hnb
  by_cases hne : na = nb
  · subst hne
    go_enter Try.func13, Try.ntmps13
    go_wp2_with fail
    go_loopw [5] (fun i wr => ∃ k m : Nat, k ≤ na ∧ i = .int .i64 k ∧ wr = w.drewN m) (fun i _ => na - (intOf i).toNat)
    case atStart => exact ⟨0, 0, by omega, rfl, rfl⟩
    case round =>
      obtain ⟨k, m, hk, rfl, rfl⟩ := hrel
      by_cases h2 : k < na
      · have hka : k < sa.length := by have := HA.out; omega
        have hkb : k < sb.length := by have := HB.out; omega
        rcases ha with h0 | ⟨b1, off1, rfl, hc1⟩
        · rw [h0] at hka; simp at hka
        rcases hb with h0 | ⟨b2, off2, rfl, hc2⟩
        · rw [h0] at hkb; simp at hkb
        have d1 := hc1 k hka
        have d2 := hc2 k hkb
        obtain ⟨x, hx⟩ : ∃ x, x = sa.getD k ⟨#[]⟩ := ⟨_, rfl⟩
        obtain ⟨y, hy⟩ : ∃ y, y = sb.getD k ⟨#[]⟩ := ⟨_, rfl⟩
        rw [← hx] at d1
        rw [← hy] at d2
        have HX : Hid (x = sa.getD k ⟨#[]⟩) := hx
        have HY : Hid (y = sb.getD k ⟨#[]⟩) := hy
        clear hx hy hc1 hc2
        by_cases hxy : x.toList = y.toList
        · have hxy' : (x.toList == y.toList) = true := by simpa using hxy
          go_wp2
          go_quiet (fail)
          go_wp2
          go_roundw
          case rel => exact ⟨k + 1, _, by omega, by go_num, rfl⟩
          case measure => simp [intOf]; omega
        · have hxy' : (x.toList == y.toList) = false := by simpa using hxy
          go_wp2
          go_quiet (fail)
          go_wp2
          go_ret
          refine ⟨⟨false, rfl, fun e => ?_⟩, _, drew2 _ _ _⟩
          exact absurd (by rw [HX.out, HY.out, e]) hxy
      · go_wp2
        go_ret
        exact ⟨⟨true, rfl, fun _ => rfl⟩, _, rfl⟩
  · have hne' : ¬ ((na : Nat) : Int) = (nb : Nat) := by omega
    go_enter Try.func13, Try.ntmps13
    go_wp2
    go_ret
    refine ⟨⟨false, rfl, fun e => ?_⟩, 0, rfl⟩
    exact absurd (by rw [HA.out, HB.out, e]) hne


theorem sameTexts_true (w : World) (oa : Option Addr) (na ca : Nat) (ob : Option Addr) (nb cb : Nat) (ss : List ByteArray) (hna : na = ss.length) (hnb : nb = ss.length) (hla : na ≤ 140737488355328) (ha : RowS w oa ss) (hb : RowS w ob ss) :
    Calls Try.prog 13 #[.slice oa na ca, .slice ob nb cb] w fun e w' => e = .returned (.bool true) ∧ ∃ m, w' = w.drewN m :=
  (sameTexts_q w oa na ca ob nb cb ss ss hna hnb hla (by omega) ha hb).mono fun e w' ⟨⟨B, h1, h2⟩, h3⟩ => ⟨by rw [h1, h2.out rfl], h3⟩
theorem sl32 : Try.prog.underlying 32 = some (.slice (Try.prog.elem 32)) := by kernel_rfl
theorem cut32 (g n m c : Nat) (hm : m ≤ c) (w : World) : (Instr.slice 32 (.slice (some ⟨g, 0, none⟩) n c) none (some (.int .i64 (m : Nat))) none).run Try.prog w = .ok (.slice (some ⟨g, 0, none⟩) m c) w := by
  rw [run_slice_h w 32 (some ⟨g, 0, none⟩) n c sl32 .i64 _ (by omega) (by omega)]
  go_simp
theorem OwnsS.store {w : World} {g c : Nat} {ss : List ByteArray} (h : OwnsS w (some ⟨g, 0, none⟩) c ss) (j : Nat) (hj : j < ss.length) (s : ByteArray) :
    w.cell? ⟨g, j, none⟩ = some (.string (ss.getD j ⟨#[]⟩)) ∧ w.frozen? ⟨g, j, none⟩ = false ∧ OwnsS (w.setCell ⟨g, j, none⟩ (.string s)) (some ⟨g, 0, none⟩) c (ss.set j s) ∧ Keeps (fun k => k = g) w (w.setCell ⟨g, j, none⟩ (.string s)) := by
  refine ⟨?_, World.ownsRow.frozenAt h j, ?_, keeps_set _ _ _ _⟩
  · rw [World.ownsRow.cellAt h j (by omega)]
    simp [hj]
  · have := (World.ownsRow.stored h j (.string s)).1
    unfold OwnsS
    rw [List.length_set, List.map_set]
    exact this

/-- all that PackKeeps' third loop holds -/
structure Held (w wr : World) (a : Nat) (oa : Option Addr) (ca : Nat) (sa : List Nat) (ae : Nat) (v : Nat) (ov : Option Addr) (cv : Nat) (sv : List Nat) (ve : Nat) (oO : Option Addr) (cO : Nat) (xs : List SlV) (oE : Option Addr) (cE : Nat) (ys : List SlV) (own : Nat → Nat) : Prop where
  W : IsW 65 wr a oa ca 1073741824 sa ae
  V : IsW 65 wr v ov cv 1073741824 sv ve
  O : OwnsX wr oO cO xs
  E : OwnsX wr oE cE ys
  len : ys.length = xs.length
  x : ∀ i, i < xs.length → Owns wr (xs.getD i slv0).o (xs.getD i slv0).c (xs.getD i slv0).bs ∧ (∀ c ∈ (xs.getD i slv0).bs, c < 256) ∧ (xs.getD i slv0).bs.length ≤ 2147483648
  y : ∀ i, i < xs.length → (ys.getD i slv0).bs = (xs.getD i slv0).bs ∧ Row wr (ys.getD i slv0).o (xs.getD i slv0).bs ∧ ∀ k, inO (ys.getD i slv0).o k → k < wr.heap.size
  tw : Tag w.heap.size own 1 (footW a oa)
  tv : Tag w.heap.size own 2 (footW v ov)
  tO : Tag w.heap.size own 9 (inO oO)
  tE : Tag w.heap.size own 8 (inO oE)
  tx : ∀ i, i < xs.length → Tag w.heap.size own (10 + i) (inO (xs.getD i slv0).o)
  ty : ∀ i, i < xs.length → Tag w.heap.size own 5 (inO (ys.getD i slv0).o)
  K : Keeps (fun _ => False) w wr

theorem Held.keepS {w wr w' : World} {a : Nat} {oa : Option Addr} {ca : Nat} {sa : List Nat} {ae : Nat} {v : Nat} {ov : Option Addr} {cv : Nat} {sv : List Nat} {ve : Nat} {oO : Option Addr} {cO : Nat} {xs : List SlV} {oE : Option Addr} {cE : Nat} {ys : List SlV} {own : Nat → Nat}
    (h : Held w wr a oa ca sa ae v ov cv sv ve oO cO xs oE cE ys own) {S : Nat → Prop} (hk : Keeps S wr w') (hS : ∀ k, S k → own k = 7 ∧ w.heap.size ≤ k) : Held w w' a oa ca sa ae v ov cv sv ve oO cO xs oE cE ys own := by
  have ap : ∀ {i : Nat} {F : Nat → Prop}, Tag w.heap.size own i F → i ≠ 7 → ∀ k, F k → ¬ S k := fun ht hi k hk hs => hi ((ht k hk).1.symm.trans (hS k hs).1)
  exact ⟨h.W.keeps hk (ap h.tw (by omega)), h.V.keeps hk (ap h.tv (by omega)), h.O.keeps hk (ap h.tO (by omega)), h.E.keeps hk (ap h.tE (by omega)), h.len,
    fun i hi => ⟨(h.x i hi).1.keeps hk (ap (h.tx i hi) (by omega)), (h.x i hi).2⟩, fun i hi => ⟨(h.y i hi).1, (h.y i hi).2.1.keeps hk (fun x hx => ap (h.ty i hi) (by omega) _ ⟨x, hx, rfl⟩), fun k hin => Nat.lt_of_lt_of_le ((h.y i hi).2.2 k hin) hk.size⟩,
    h.tw, h.tv, h.tO, h.tE, h.tx, h.ty, h.K.then hk (fun i hi => .inr (hS i hi).2)⟩
theorem Held.retag {w wr : World} {a : Nat} {oa : Option Addr} {ca : Nat} {sa : List Nat} {ae : Nat} {v : Nat} {ov : Option Addr} {cv : Nat} {sv : List Nat} {ve : Nat} {oO : Option Addr} {cO : Nat} {xs : List SlV} {oE : Option Addr} {cE : Nat} {ys : List SlV} {own : Nat → Nat}
    (h : Held w wr a oa ca sa ae v ov cv sv ve oO cO xs oE cE ys own) (n t : Nat) (hn : wr.heap.size ≤ n) : Held w wr a oa ca sa ae v ov cv sv ve oO cO xs oE cE ys (bump own n t) :=
  ⟨h.W, h.V, h.O, h.E, h.len, h.x, h.y, h.tw.bump _ _ (fun k hk => Nat.lt_of_lt_of_le (h.W.lt k hk) hn), h.tv.bump _ _ (fun k hk => Nat.lt_of_lt_of_le (h.V.lt k hk) hn), h.tO.bump _ _ (fun k hk => Nat.lt_of_lt_of_le (h.O.lt k hk) hn), h.tE.bump _ _ (fun k hk => Nat.lt_of_lt_of_le (h.E.lt k hk) hn),
    fun i hi => (h.tx i hi).bump _ _ (fun k hk => Nat.lt_of_lt_of_le ((h.x i hi).1.lt k hk) hn), fun i hi => (h.ty i hi).bump _ _ (fun k hk => Nat.lt_of_lt_of_le ((h.y i hi).2.2 k hk) hn), h.K⟩
theorem Held.stepW {w wr w' : World} {a : Nat} {oa : Option Addr} {ca : Nat} {sa : List Nat} {ae : Nat} {v : Nat} {ov : Option Addr} {cv : Nat} {sv : List Nat} {ve : Nat} {oO : Option Addr} {cO : Nat} {xs : List SlV} {oE : Option Addr} {cE : Nat} {ys : List SlV} {own : Nat → Nat} {st : WS}
    (h : Held w wr a oa ca sa ae v ov cv sv ve oO cO xs oE cE ys own) (hs : WStep 65 wr a oa 1073741824 st w') : ∃ oa' ca', Held w w' a oa' ca' st.1 st.2 v ov cv sv ve oO cO xs oE cE ys (bump own wr.heap.size 1) := by
  obtain ⟨oa', ca', h1, h2, hk⟩ := hs
  have hr := h.retag wr.heap.size 1 (Nat.le_refl _)
  exact ⟨oa', ca', h1, h.V.keeps hk (h.tv.apart h.tw (by omega)), h.O.keeps hk (h.tO.apart h.tw (by omega)), h.E.keeps hk (h.tE.apart h.tw (by omega)), h.len,
    fun i hi => ⟨(h.x i hi).1.keeps hk ((h.tx i hi).apart h.tw (by omega)), (h.x i hi).2⟩, fun i hi => ⟨(h.y i hi).1, (h.y i hi).2.1.keeps hk (fun x hx => (h.ty i hi).apart h.tw (by omega) _ ⟨x, hx, rfl⟩), fun k hin => Nat.lt_of_lt_of_le ((h.y i hi).2.2 k hin) hk.size⟩,
    h.tw.step h2 h.W.lt h.K.size, hr.tv, hr.tO, hr.tE, hr.tx, hr.ty, h.K.then hk (fun i hi => .inr (h.tw i hi).2)⟩
theorem Held.stepV {w wr w' : World} {a : Nat} {oa : Option Addr} {ca : Nat} {sa : List Nat} {ae : Nat} {v : Nat} {ov : Option Addr} {cv : Nat} {sv : List Nat} {ve : Nat} {oO : Option Addr} {cO : Nat} {xs : List SlV} {oE : Option Addr} {cE : Nat} {ys : List SlV} {own : Nat → Nat} {st : WS}
    (h : Held w wr a oa ca sa ae v ov cv sv ve oO cO xs oE cE ys own) (hs : WStep 65 wr v ov 1073741824 st w') : ∃ ov' cv', Held w w' a oa ca sa ae v ov' cv' st.1 st.2 oO cO xs oE cE ys (bump own wr.heap.size 2) := by
  obtain ⟨ov', cv', h1, h2, hk⟩ := hs
  have hr := h.retag wr.heap.size 2 (Nat.le_refl _)
  exact ⟨ov', cv', h.W.keeps hk (h.tw.apart h.tv (by omega)), h1, h.O.keeps hk (h.tO.apart h.tv (by omega)), h.E.keeps hk (h.tE.apart h.tv (by omega)), h.len,
    fun i hi => ⟨(h.x i hi).1.keeps hk ((h.tx i hi).apart h.tv (by omega)), (h.x i hi).2⟩, fun i hi => ⟨(h.y i hi).1, (h.y i hi).2.1.keeps hk (fun x hx => (h.ty i hi).apart h.tv (by omega) _ ⟨x, hx, rfl⟩), fun k hin => Nat.lt_of_lt_of_le ((h.y i hi).2.2 k hin) hk.size⟩,
    hr.tw, h.tv.step h2 h.V.lt h.K.size, hr.tO, hr.tE, hr.tx, hr.ty, h.K.then hk (fun i hi => .inr (h.tv i hi).2)⟩

theorem getD_two_front (zs : List SlV) (y z : SlV) (j : Nat) (h : j < zs.length) : (zs ++ [y, z]).getD j slv0 = zs.getD j slv0 := by
  rw [List.getD_eq_getElem?_getD, List.getD_eq_getElem?_getD, List.getElem?_append_left h]
theorem getD_two (zs : List SlV) (y z : SlV) : (zs ++ [y, z]).getD zs.length slv0 = y ∧ (zs ++ [y, z]).getD (zs.length + 1) slv0 = z := by
  constructor
  · simp [List.getD_eq_getElem?_getD]
  · rw [List.getD_eq_getElem?_getD, List.getElem?_append_right (by omega)]
    simp
theorem Held.push {w wr w' : World} {a : Nat} {oa : Option Addr} {ca : Nat} {sa : List Nat} {ae : Nat} {v : Nat} {ov : Option Addr} {cv : Nat} {sv : List Nat} {ve : Nat} {oO : Option Addr} {cO : Nat} {xs : List SlV} {oE : Option Addr} {cE : Nat} {ys : List SlV} {own : Nat → Nat}
    (h : Held w wr a oa ca sa ae v ov cv sv ve oO cO xs oE cE ys own) (x1 y1 x2 y2 : SlV) {oO' oE' : Option Addr} {cO' cE' : Nat} (s13 s15 : Nat)
    (hx1 : Owns wr x1.o x1.c x1.bs ∧ (∀ c ∈ x1.bs, c < 256) ∧ x1.bs.length ≤ 2147483648) (hy1 : Owns wr y1.o y1.c y1.bs ∧ (∀ c ∈ y1.bs, c < 256) ∧ y1.bs.length ≤ 2147483648)
    (tx1 : Tag w.heap.size own (10 + xs.length) (inO x1.o)) (ty1 : Tag w.heap.size own (10 + (xs.length + 1)) (inO y1.o))
    (hk : Keeps (fun z => inO oO z ∨ inO oE z) wr w') (O' : OwnsX w' oO' cO' (xs ++ [x1, y1])) (E' : OwnsX w' oE' cE' (ys ++ [x2, y2]))
    (hx2 : x2.bs = x1.bs ∧ Row w' x2.o x1.bs) (hy2 : y2.bs = y1.bs ∧ Row w' y2.o y1.bs)
    (fO : ∀ z, inO oO' z → inO oO z ∨ (wr.heap.size ≤ z ∧ z < s13)) (fE : ∀ z, inO oE' z → inO oE z ∨ s15 ≤ z)
    (f2 : ∀ z, inO x2.o z ∨ inO y2.o z → s13 ≤ z ∧ z < s15) (q1 : wr.heap.size ≤ s13) (q2 : s13 ≤ s15) (q3 : s15 ≤ w'.heap.size) :
    ∃ own', Held w w' a oa ca sa ae v ov cv sv ve oO' cO' (xs ++ [x1, y1]) oE' cE' (ys ++ [x2, y2]) own' := by
  have hB := h.K.size
  have up : ∀ {i : Nat} {F : Nat → Prop}, Tag w.heap.size own i F → (∀ k, F k → k < wr.heap.size) → Tag w.heap.size (bump (bump (bump own wr.heap.size 9) s13 5) s15 8) i F := fun ht hl k hk => by
    have := hl k hk
    refine ⟨?_, (ht k hk).2⟩
    unfold bump
    rw [if_pos (by omega), if_pos (by omega), if_pos this]
    exact (ht k hk).1
  have ap : ∀ {i : Nat} {F : Nat → Prop}, Tag w.heap.size own i F → i ≠ 9 → i ≠ 8 → ∀ k, F k → ¬ (inO oO k ∨ inO oE k) := fun ht h9 h8 k hk hor => by
    rcases hor with h' | h'
    · exact h9 ((ht k hk).1.symm.trans (h.tO k h').1)
    · exact h8 ((ht k hk).1.symm.trans (h.tE k h').1)
  have t5 : ∀ {F : Nat → Prop}, (∀ z, F z → s13 ≤ z ∧ z < s15) → Tag w.heap.size (bump (bump (bump own wr.heap.size 9) s13 5) s15 8) 5 F := fun hf k hk => by
    have := hf k hk
    refine ⟨?_, by omega⟩
    unfold bump
    rw [if_pos (by omega), if_neg (by omega)]
  have hlx : ∀ i, i < (xs ++ [x1, y1]).length → i < xs.length ∨ i = xs.length ∨ i = xs.length + 1 := fun i hi => by simp at hi; omega
  have hgx := getD_two xs x1 y1
  have hgy := getD_two ys x2 y2
  rw [h.len] at hgy
  refine ⟨bump (bump (bump own wr.heap.size 9) s13 5) s15 8, h.W.keeps hk (ap h.tw (by omega) (by omega)), h.V.keeps hk (ap h.tv (by omega) (by omega)), O', E', by simp [h.len], ?_, ?_, up h.tw h.W.lt, up h.tv h.V.lt, ?_, ?_, ?_, ?_, h.K.then hk (fun z hz => .inr ?_)⟩
  · intro i hi
    rcases hlx i hi with h' | rfl | rfl
    · rw [getD_two_front _ _ _ _ h']
      exact ⟨(h.x i h').1.keeps hk (ap (h.tx i h') (by omega) (by omega)), (h.x i h').2⟩
    · rw [hgx.1]; exact ⟨hx1.1.keeps hk (ap tx1 (by omega) (by omega)), hx1.2⟩
    · rw [hgx.2]; exact ⟨hy1.1.keeps hk (ap ty1 (by omega) (by omega)), hy1.2⟩
  · intro i hi
    rcases hlx i hi with h' | rfl | rfl
    · rw [getD_two_front _ _ _ _ h', getD_two_front _ _ _ _ (by rw [h.len]; exact h')]
      exact ⟨(h.y i h').1, (h.y i h').2.1.keeps hk (fun x hx => ap (h.ty i h') (by omega) (by omega) _ ⟨x, hx, rfl⟩), fun k hin => Nat.lt_of_lt_of_le ((h.y i h').2.2 k hin) hk.size⟩
    · rw [hgx.1, hgy.1]; exact ⟨hx2.1, hx2.2, fun k hin => by have := f2 k (.inl hin); omega⟩
    · rw [hgx.2, hgy.2]; exact ⟨hy2.1, hy2.2, fun k hin => by have := f2 k (.inr hin); omega⟩
  · intro z hz
    rcases fO z hz with h' | h'
    · exact up h.tO h.O.lt z h'
    · refine ⟨?_, by omega⟩
      unfold bump
      rw [if_pos (by omega), if_pos (by omega), if_neg (by omega)]
  · intro z hz
    rcases fE z hz with h' | h'
    · exact up h.tE h.E.lt z h'
    · refine ⟨?_, by omega⟩
      unfold bump
      rw [if_neg (by omega)]
  · intro i hi
    rcases hlx i hi with h' | rfl | rfl
    · rw [getD_two_front _ _ _ _ h']; exact up (h.tx i h') (h.x i h').1.lt
    · rw [hgx.1]; exact up tx1 hx1.1.lt
    · rw [hgx.2]; exact up ty1 hy1.1.lt
  · intro i hi
    rcases hlx i hi with h' | rfl | rfl
    · rw [getD_two_front _ _ _ _ (by rw [h.len]; exact h')]; exact up (h.ty i h') (h.y i h').2.2
    · rw [hgy.1]; exact t5 (fun z hz => f2 z (.inl hz))
    · rw [hgy.2]; exact t5 (fun z hz => f2 z (.inr hz))
  · rcases hz with h' | h'
    · exact (h.tO z h').2
    · exact (h.tE z h').2

theorem Held.push_all {w w12 w13 w14 w15 w16 : World} {a : Nat} {oa : Option Addr} {ca : Nat} {sa : List Nat} {ae : Nat} {v : Nat} {ov : Option Addr} {cv : Nat} {sv : List Nat} {ve : Nat} {oO : Option Addr} {cO : Nat} {xs : List SlV} {oE : Option Addr} {cE : Nat} {ys : List SlV} {own : Nat → Nat}
    (h : Held w w12 a oa ca sa ae v ov cv sv ve oO cO xs oE cE ys own) {x1 y1 : SlV} {oO3 oE6 o14 o15 : Option Addr} {cO3 cE6 c14 c15 : Nat} {obj1 obj2 : Obj}
    (hx1 : Owns w12 x1.o x1.c x1.bs) (bx : ∀ c ∈ x1.bs, c < 256) (lx : x1.bs.length ≤ 1073741824) (hy1 : Owns w12 y1.o y1.c y1.bs) (by1 : ∀ c ∈ y1.bs, c < 256) (ly : y1.bs.length ≤ 1073741824)
    (tx1 : Tag w.heap.size own (10 + xs.length) (inO x1.o)) (ty1 : Tag w.heap.size own (10 + (xs.length + 1)) (inO y1.o))
    (O13 : OwnsX w13 oO3 cO3 (xs ++ [x1, y1])) (f13 : Fresh (w12.alloc obj1) oO oO3) (k13 : Keeps (inO oO) (w12.alloc obj1) w13)
    (k14 : Keeps (fun _ => False) w13 w14) (O14 : Owns w14 o14 c14 x1.bs) (f14 : Fresh w13 none o14) (k15 : Keeps (fun _ => False) w14 w15) (O15 : Owns w15 o15 c15 y1.bs) (f15 : Fresh w14 none o15)
    (E16 : OwnsX w16 oE6 cE6 (ys ++ [⟨o14, c14, x1.bs⟩, ⟨o15, c15, y1.bs⟩])) (f16 : Fresh (w15.alloc obj2) oE oE6) (k16 : Keeps (inO oE) (w15.alloc obj2) w16) :
    ∃ own', Held w w16 a oa ca sa ae v ov cv sv ve oO3 cO3 (xs ++ [x1, y1]) oE6 cE6 (ys ++ [⟨o14, c14, x1.bs⟩, ⟨o15, c15, y1.bs⟩]) own' := by
  have k1213 : Keeps (inO oO) w12 w13 := ((Keeps.refl _ _).alloc _).then k13 (fun i h => .inl h)
  have s13 := k1213.size
  have s14 := k14.size
  have s15 := k15.size
  have s16 := k16.size
  rw [World.size_alloc] at s16
  have hk : Keeps (fun z => inO oO z ∨ inO oE z) w12 w16 := ((((k1213.mono (fun _ h => .inl h)).trans (k14.mono (fun _ h => h.elim))).trans (k15.mono (fun _ h => h.elim))).alloc obj2).then k16 (fun i h => .inl (.inr h))
  have n14 : ∀ z, inO o14 z → w13.heap.size ≤ z := fun z hz => by
    rcases f14.in z hz with ⟨y, hy, _⟩ | h'
    · cases hy
    · exact h'
  have n15 : ∀ z, inO o15 z → w14.heap.size ≤ z := fun z hz => by
    rcases f15.in z hz with ⟨y, hy, _⟩ | h'
    · cases hy
    · exact h'
  have nO : ∀ z, inO oO3 z → inO oO z ∨ w12.heap.size ≤ z := fun z hz => by
    rcases f13.in z hz with h' | h'
    · exact .inl h'
    · rw [World.size_alloc] at h'; exact .inr (by omega)
  have hE := h.E.lt
  refine h.push x1 y1 ⟨o14, c14, x1.bs⟩ ⟨o15, c15, y1.bs⟩ w13.heap.size w15.heap.size ⟨hx1, bx, by omega⟩ ⟨hy1, by1, by omega⟩ tx1 ty1 hk ?_ E16 ⟨rfl, ?_⟩ ⟨rfl, ?_⟩ ?_ ?_ ?_ s13 (by omega) (by omega)
  · refine (((O13.keeps k14 (fun _ _ h => h)).keeps k15 (fun _ _ h => h)).alloc obj2).keeps k16 (fun z hz hz' => ?_)
    rcases nO z hz with h' | h'
    · exact (h.tO.apart h.tE (by omega)) z h' hz'
    · have := hE z hz'; omega
  · have hr := ((O14.keeps k15 (fun _ _ h => h)).alloc obj2).row bx (by omega)
    refine hr.keeps k16 (fun x hx hin => ?_)
    have := n14 _ ⟨x, hx, rfl⟩
    have := hE _ hin
    omega
  · have hr := (O15.alloc obj2).row by1 (by omega)
    refine hr.keeps k16 (fun x hx hin => ?_)
    have := n15 _ ⟨x, hx, rfl⟩
    have := hE _ hin
    omega
  · intro z hz
    have := O13.lt z hz
    rcases nO z hz with h' | h'
    · exact .inl h'
    · exact .inr ⟨h', this⟩
  · intro z hz
    rcases f16.in z hz with h' | h'
    · exact .inl h'
    · rw [World.size_alloc] at h'; exact .inr (by omega)
  · intro z hz
    rcases hz with h' | h'
    · have := n14 z h'; have := O14.lt z h'; omega
    · have := n15 z h'; have := O15.lt z h'; omega

theorem marked_to (w : World) (ol : Option Addr) (cl : Nat) (xs : List SlV) (ow : Option Addr) (cw : Nat) (ys : List SlV) (own : Nat → Nat) (n m : Nat) (hn : n = xs.length) (hm : m = ys.length) (h : Marks w ol xs ow ys own) :
    Calls Try.prog 15 #[.slice ol n cl, .slice ow m cw] w fun e w' => e = .returned (.bool true) ∧ Keeps (Blocks xs) w w' := by
  subst hn hm
  exact marked_any w ol cl xs ow cw ys own h
theorem Held.marks {w wr : World} {a : Nat} {oa : Option Addr} {ca : Nat} {sa : List Nat} {ae : Nat} {v : Nat} {ov : Option Addr} {cv : Nat} {sv : List Nat} {ve : Nat} {oO : Option Addr} {cO : Nat} {xs : List SlV} {oE : Option Addr} {cE : Nat} {ys : List SlV} {own : Nat → Nat}
    (h : Held w wr a oa ca sa ae v ov cv sv ve oO cO xs oE cE ys own) (hl : xs.length ≤ 1000) : Marks wr oO xs oE ys own :=
  ⟨h.O.row, h.E.row, hl, h.len, h.x, fun i hi => ⟨(h.y i hi).1, (h.y i hi).2.1⟩, fun i hi k hk => (h.tx i hi k hk).1, fun k hk => ⟨(h.tO k hk).1, h.O.lt k hk⟩⟩
theorem lay_le (L : Nat) (st : WS) (news : List Nat) (h : st.1.length ≤ L) : (lay L st news).1.length ≤ L := by
  unfold lay
  split
  · exact h
  · split
    · exact h
    · simp; omega
theorem RowS.front {w : World} {a : Option Addr} {ss tt : List ByteArray} (h : RowS w a (ss ++ tt)) : RowS w a ss := by
  rcases h with h | ⟨b, off, e, hc⟩
  · exact .inl (List.append_eq_nil_iff.mp h).1
  · refine .inr ⟨b, off, e, fun j hj => ?_⟩
    rw [hc j (by rw [List.length_append]; omega), List.getD_eq_getElem?_getD, List.getD_eq_getElem?_getD, List.getElem?_append_left hj]
theorem OutTo.told {w w' : World} {bs : List Nat} {e0 : Nat} {e : Ending} (h : OutTo w bs e0 e w') (hby : ∀ c ∈ bs, c < 256) (hl : bs.length ≤ 1073741824) :
    Keeps (fun _ => False) w w' ∧ ∃ x : SlV, e = .returned (.tuple #[.slice x.o x.bs.length x.c, .int .i64 (e0 : Nat)]) ∧ Owns w' x.o x.c x.bs ∧ (∀ k, inO x.o k → w.heap.size ≤ k) ∧ (∀ c ∈ x.bs, c < 256) ∧ x.bs.length ≤ 1073741824 ∧ x.bs = (if e0 = 0 then bs else []) := by
  obtain ⟨hk, ⟨he, rfl⟩ | ⟨rfl, o', c', rfl, ho, hn⟩⟩ := h
  · exact ⟨hk, ⟨none, 0, []⟩, rfl, owns_nil _, fun k ⟨y, hy, _⟩ => (by cases hy), fun c hc => (by cases hc), by simp, by rw [if_neg he]⟩
  · exact ⟨hk, ⟨o', c', bs⟩, rfl, ho, hn, hby, hl, by rw [if_pos rfl]⟩
end Go.Proofs.Ytclheacjhkoocaa
