import Derived.Test.YtbnohdgdadfjlaaGreatDoorDZ
import Derived.Test.YtbnohdgdadfjlaaGreatDoorDV
/- The document's Load: may a version be kept. -/
namespace Go.Proofs.YtbnohdgdadfjlaaGreatDoor
open Go.RowKit Go.Maps Go.Sort Orl
set_option linter.unusedVariables false
set_option linter.unusedSimpArgs false

structure Lw (w W : World) (g : Nat) (k : Tx) (i : Nat) (val : Tx) (o : Option Addr) (n c : Nat) (st : Int) : Prop where
  keep : Keeps no w W
  kb : W.heap[g]? = some (.cells #[.string k, .int .u64 ((i : Nat) : Int), .string val, .slice o n c, .int .i64 st] 51 (0, 0))
  vb : W.heap[g + 1]? = some (.cells #[.string k, .int .u64 ((i : Nat) : Int), .string val, .slice o n c] 49 (0, 0))
theorem Lw.go {w W W' : World} {g : Nat} {k : Tx} {i : Nat} {val : Tx} {o : Option Addr} {n c : Nat} {st : Int} (h : Lw w W g k i val o n c st) (hk : Keeps no W W') : Lw w W' g k i val o n c st := ⟨h.keep.trans hk, hk.at h.kb id, hk.at h.vb id⟩
/-- may a version be kept, with these lasts -/
def loadedB (ls : List Mk) (x : KV) : Bool := decide (65536 ≤ x.m.2) && (okKeys x.keys && (inn x.keys x.m.1 && (decide (x.val.size ≤ 65535) && fitsB x.stamp (decide (x.m.2 < lastIn ls x.m.1)))))
theorem loadedB_eq (ls : List Mk) (x : KV) : loadedB ls x = (okKv x && fitsB x.stamp (decide (x.m.2 < lastIn ls x.m.1))) := by
  unfold loadedB okKv
  cases decide (65536 ≤ x.m.2) <;> cases okKeys x.keys <;> cases inn x.keys x.m.1 <;> cases decide (x.val.size ≤ 65535) <;> simp
set_option maxRecDepth 10000 in
set_option maxHeartbeats 1000000 in
theorem loaded_any (w : World) (p : Nat) (oK : Option Addr) (nK cK : Nat) (oL : Option Addr) (nL cL : Nat) (ks : List KV) (ls : List Mk) (h : RD w p oK nK cK oL nL cL ks ls) (k : Tx) (i : Nat) (val : Tx) (o : Option Addr) (n c : Nat) (keys : List Tx) (st : Int) (hn : n = keys.length) (hl : keys.length ≤ 8796093021952) (hs : Sl TE w o c keys) (hz : ∀ x ∈ keys, x.size ≤ 140737488351232) (hv : val.size ≤ 140737488355328) :
    Calls Tryz.prog 150 #[.pointer (some ⟨p, 0, none⟩), .agg #[.string k, .int .u64 ((i : Nat) : Int), .string val, .slice o n c, .int .i64 st]] w fun e w' => e = .returned (.bool (loadedB ls ⟨(k, i), val, o, c, keys, st⟩)) ∧ Keeps no w w' := by
  have HA : Hid (n = keys.length ∧ keys.length ≤ 8796093021952 ∧ Sl TE w o c keys ∧ ∀ x ∈ keys, x.size ≤ 140737488351232) := ⟨hn, hl, hs, hz⟩
  have HD : Hid (RD w p oK nK cK oL nL cL ks ls) := h
  have hvI : (val.size : Int) ≤ 140737488355328 := by omega
  obtain ⟨R, hR⟩ : ∃ R, loadedB ls ⟨(k, i), val, o, c, keys, st⟩ = R := ⟨_, rfl⟩
  have HR : Hid ((decide (65536 ≤ i) && (okKeys keys && (inn keys k && (decide (val.size ≤ 65535) && fitsB st (decide (i < lastIn ls k)))))) = R) := hR
  rw [hR]
  obtain ⟨B1, hB1⟩ : ∃ B, decide (65536 ≤ i) = B := ⟨_, rfl⟩
  have HB1 : Hid (decide (65536 ≤ i) = B1) := hB1
  clear hn hl hs hz h hR hB1 hv
  have c1 := fun X => refID_any X i
  rw [HB1.out] at c1
  have HW : Hid (Lw w ((w.alloc (.cells #[.string k, .int .u64 ((i : Nat) : Int), .string val, .slice o n c, .int .i64 st] 51)).alloc (.cells #[.string k, .int .u64 ((i : Nat) : Int), .string val, .slice o n c] 49)) w.heap.size k i val o n c st) := by
    refine ⟨((Keeps.refl no w).alloc _).alloc _, blk_alloc (blk_new w _) _, ?_⟩
    have := blk_new (w.alloc (.cells #[.string k, .int .u64 ((i : Nat) : Int), .string val, .slice o n c, .int .i64 st] 51)) (.cells #[.string k, .int .u64 ((i : Nat) : Int), .string val, .slice o n c] 49)
    rwa [show (w.alloc (.cells #[.string k, .int .u64 ((i : Nat) : Int), .string val, .slice o n c, .int .i64 st] 51)).heap.size = w.heap.size + 1 by simp] at this
  go_enter Tryz.func150, Tryz.ntmps150
  go_wp2_with fail
  generalize (w.alloc (.cells #[.string k, .int .u64 ((i : Nat) : Int), .string val, .slice o n c, .int .i64 st] 51)).alloc (.cells #[.string k, .int .u64 ((i : Nat) : Int), .string val, .slice o n c] 49) = W at HW ⊢
  generalize w.heap.size = g at HW ⊢
  refine (c1 _).mono ?_
  rintro e w1 ⟨rfl, hw1⟩
  subst w1
  clear c1
  cases B1
  · go_wp2_with fail
    go_ret
    exact ⟨by rw [← HR.out, HB1.out]; rfl, HW.out.keep⟩
  · obtain ⟨v0, v1, v2, v3⟩ := cells4 HW.out.vb
    go_wp2_with fail
    refine (refWhole_any W o n c keys HA.out.1 (by have := HA.out.2.1; omega) HA.out.2.2.2 (HA.out.2.2.1.keepsN HW.out.keep)).mono ?_
    rintro e W1 ⟨rfl, hk1⟩
    have HW1 : Hid (Lw w W1 g k i val o n c st) := HW.out.go hk1
    obtain ⟨B2, hB2⟩ : ∃ B, okKeys keys = B := ⟨_, rfl⟩
    have HB2 : Hid (okKeys keys = B2) := hB2
    rw [hB2]
    clear hk1 hB2 HW v0 v1 v2 v3
    cases B2
    · go_wp2_with fail
      go_ret
      exact ⟨by rw [← HR.out, HB1.out, HB2.out]; rfl, HW1.out.keep⟩
    · obtain ⟨v0, v1, v2, v3⟩ := cells4 HW1.out.vb
      go_wp2_with fail
      refine (refHas_any W1 o n c keys k HA.out.1 (by have := HA.out.2.1; omega) (HA.out.2.2.1.keepsN HW1.out.keep)).mono ?_
      rintro e w1 ⟨rfl, hw1⟩
      subst w1
      obtain ⟨B3, hB3⟩ : ∃ B, inn keys k = B := ⟨_, rfl⟩
      have HB3 : Hid (inn keys k = B3) := hB3
      rw [hB3]
      clear hB3
      cases B3
      · go_wp2_with fail
        go_ret
        exact ⟨by rw [← HR.out, HB1.out, HB2.out, HB3.out]; rfl, HW1.out.keep⟩
      · by_cases hvl : 65535 < val.size
        · have hvl' : (65535 : Int) < (val.size : Int) := by omega
          have HB4 : Hid (decide (val.size ≤ 65535) = false) := decide_eq_false (by omega)
          clear hvl
          go_wp2_with fail
          go_ret
          exact ⟨by rw [← HR.out, HB1.out, HB2.out, HB3.out, HB4.out]; rfl, HW1.out.keep⟩
        · have hvl' : ¬ (65535 : Int) < (val.size : Int) := by omega
          have HB4 : Hid (decide (val.size ≤ 65535) = true) := decide_eq_true (by omega)
          clear hvl
          obtain ⟨L, hL⟩ : ∃ L, lastIn ls k = L := ⟨_, rfl⟩
          have HL : Hid (lastIn ls k = L) := hL
          have cS := call_grown (W := W1) (f := 116) (args := #[.pointer (some ⟨p, 0, none⟩), .string k]) (v := .int .u64 ((L : Nat) : Int)) (fun X hX => by rw [← hL]; exact rLast_any X p oK nK cK oL nL cL ks ls (HD.out.keepsN (HW1.out.keep.trans hX)) k)
          have z0 := cell_regrown v0
          have z1 := cell_regrown v1
          clear hL
          go_wp2_with fail
          refine wp_region_quiet_below (by kernel_rfl) (by kernel_rfl) ?_
          repeat (go_big_quiet_step (exact cS _ _))
          refine wpQuiet_nil ?_
          intro _ hw'
          obtain ⟨⟨dq, osq⟩, rfl⟩ := hw'
          have HW2 : Hid (Lw w (Sort.grow (redrawn W1 dq) osq) g k i val o n c st) := HW1.out.go (keeps_grownQ ..)
          generalize Sort.grow (redrawn W1 dq) osq = W2 at HW2 ⊢
          clear cS z0 z1 v0 v1 v2 v3
          have kb := cell_of_blk HW2.out.kb 4
          by_cases hlt : i < L
          · have hlt' : ((i : Nat) : Int) < ((L : Nat) : Int) := by omega
            have HB5 : Hid (decide (i < lastIn ls k) = true) := by rw [HL.out]; exact decide_eq_true hlt
            have ct := fun X => rtick_any X st
            have HB6 : Hid (R = tickB st) := by rw [← HR.out, HB1.out, HB2.out, HB3.out, HB4.out, HB5.out]; rfl
            generalize tickB st = T at ct HB6
            clear hlt
            go_wp2_with fail
            refine (ct _).mono ?_
            rintro e w1 ⟨rfl, hw1⟩
            subst w1
            go_wp2_with fail
            go_ret
            exact ⟨by rw [HB6.out]; rfl, HW2.out.keep⟩
          · have hlt' : ¬ ((i : Nat) : Int) < ((L : Nat) : Int) := by omega
            have HB5 : Hid (decide (i < lastIn ls k) = false) := by rw [HL.out]; exact decide_eq_false hlt
            have HB6 : Hid (R = decide (st = -1)) := by rw [← HR.out, HB1.out, HB2.out, HB3.out, HB4.out, HB5.out]; rfl
            clear hlt
            by_cases hst : st = -1
            · have hst' : (st == -1) = true := by simpa using hst
              have HB7 : Hid (R = true) := by rw [HB6.out, decide_eq_true hst]; exact rfl
              clear hst
              go_wp2_with fail
              go_ret
              exact ⟨by rw [HB7.out]; rfl, HW2.out.keep⟩
            · have hst' : (st == -1) = false := by simpa using hst
              have HB7 : Hid (R = false) := by rw [HB6.out, decide_eq_false hst]; exact rfl
              clear hst
              go_wp2_with fail
              go_ret
              exact ⟨by rw [HB7.out]; rfl, HW2.out.keep⟩
end Go.Proofs.YtbnohdgdadfjlaaGreatDoor
/- The document's Load. -/
namespace Go.Proofs.YtbnohdgdadfjlaaGreatDoor
open Go.RowKit Go.Maps Go.Sort Orl
set_option linter.unusedVariables false
set_option linter.unusedSimpArgs false

/-- versions that came in -/
structure InD (w : World) (ks : List KV) : Prop where
  key : ∀ x ∈ ks, Sl TE w x.o x.c x.keys ∧ x.keys.length ≤ 8796093021952 ∧ x.m.2 < 18446744073709551616 ∧ x.m.1.size ≤ 140737488355328 ∧ x.val.size ≤ 140737488355328 ∧ ∀ t ∈ x.keys, t.size ≤ 140737488351232
theorem InD.keepsN {w w' : World} {ks : List KV} (h : InD w ks) (hk : Keeps no w w') : InD w' ks := ⟨fun x hx => ⟨(h.key x hx).1.keepsN hk, (h.key x hx).2⟩⟩
/-- what the first loop holds -/
structure Lq (w : World) (p : Nat) (oL : Option Addr) (nL cL : Nat) (ks : List KV) (ls : List Mk) (t : Nat) (wr : World) : Prop where
  ro : ∃ oK cK ks', RO (fun b => w.heap.size ≤ b) wr p oK t cK oL nL cL ks' ls ∧ KsEq true (ks.take t) ks'
  keep : Keeps no w wr
theorem Lq.go {w : World} {p : Nat} {oL : Option Addr} {nL cL : Nat} {ks : List KV} {ls : List Mk} {t : Nat} {wr wr' : World} (h : Lq w p oL nL cL ks ls t wr) (hk : Keeps no wr wr') : Lq w p oL nL cL ks ls t wr' := by
  obtain ⟨oK, cK, ks', h1, h2⟩ := h.ro
  exact ⟨⟨oK, cK, ks', h1.keepsN hk, h2⟩, h.keep.trans hk⟩
theorem lq_start {w w6 : World} {o6 : Option Addr} {nb c6 : Nat} {ks : List KV} {ls : List Mk} (h1 : Own LE w6 o6 c6 ls) (h2 : New w o6) (h3 : Keeps no w w6) (hn : nb = ls.length) (hl : ls.length ≤ 5864062014634) : Lq w w6.heap.size o6 nb c6 ks ls 0 (w6.alloc (.cells #[.slice none 0 0, .slice o6 nb c6] 181)) := by
  have hk : Keeps no w6 (w6.alloc (.cells #[.slice none 0 0, .slice o6 nb c6] 181)) := (Keeps.refl no w6).alloc _
  exact ⟨⟨none, 0, [], ⟨blk_new w6 _, own_nil _, fun x hx => (by cases hx), h1.keepsN hk, rfl, hn, by simp, by omega, h3.size, fun b ⟨x, e, _⟩ => (by cases e), fun x hx => (by cases hx), h2⟩, rfl, fun j hj => absurd hj (by simp)⟩, h3.trans hk⟩
theorem lq_push {w wc z1 z2 : World} {p : Nat} {oK : Option Addr} {t cK : Nat} {oL : Option Addr} {nL cL : Nat} {ks ks' : List KV} {ls : List Mk} (h : RO (fun b => w.heap.size ≤ b) wc p oK t cK oL nL cL ks' ls) (he : KsEq true (ks.take t) ks') (hk : Keeps no w wc)
    {on : Option Addr} {cn : Nat} {xk : Tx} {xi : Nat} {xv : Tx} {xo : Option Addr} {xc : Nat} {xks : List Tx} {xst : Int} (ho : Own TE z1 on cn xks) (hn : New wc on) (hk1 : Keeps no wc z1) (hx : ⟨(xk, xi), xv, xo, xc, xks, xst⟩ = ks.getD t kv0) (ht : t < ks.length) (hl : t < 1954687338211)
    {o2 : Option Addr} {c2 : Nat} {ob : Obj} (ho2 : Own KE z2 o2 c2 (ks' ++ [⟨(xk, xi), xv, on, cn, xks, xst⟩])) (ha : Ap (z1.alloc ob) oK o2 z2) :
    z2.cell? ⟨p, 0, none⟩ = some (.slice oK t cK) ∧ z2.frozen? ⟨p, 0, none⟩ = false ∧ Lq w p oL nL cL ks ls (t + 1) (z2.setCell ⟨p, 0, none⟩ (.slice o2 (t + 1) c2)) ∧ Keeps (fun b => w.heap.size ≤ b) wc z2 ∧ Keeps (fun b => w.heap.size ≤ b) wc (z2.setCell ⟨p, 0, none⟩ (.slice o2 (t + 1) c2)) := by
  have hka : Keeps no wc (z1.alloc ob) := hk1.alloc ob
  have h1 := h.keepsN hka
  have hkz : Keeps (inO oK) (z1.alloc ob) z2 := by
    rcases ha with ⟨_, hh⟩ | ⟨_, hh⟩
    · exact hh
    · exact hh.of_no
  have hz : Keeps (fun b => w.heap.size ≤ b) wc z2 := (hka.of_no).then hkz (fun b hb => .inl (h.bk b hb))
  have hp : ∀ b, inO oK b → b ≠ p := own_ne h1.k h1.b (by decide)
  have hb2 : z2.heap[p]? = some (.cells #[.slice oK t cK, .slice oL nL cL] 181 (0, 0)) := hkz.at h1.b (fun hc => hp p hc rfl)
  have hb3 := blk_set hb2 0 (.slice o2 (t + 1) c2)
  have hks : Keeps (eqA p) z2 (z2.setCell ⟨p, 0, none⟩ (.slice o2 (t + 1) c2)) := (Keeps.refl _ _).setA 0 _
  have hnn : New w o2 := by
    rcases ha with ⟨e, _⟩ | ⟨⟨g, e, hg⟩, _⟩
    · rw [e]; exact fun b hb => h.bk b hb
    · rw [e]
      rintro b ⟨y, ey, rfl⟩
      cases ey
      exact Nat.le_trans (hk.trans hka).size hg
  have hT : ∀ {o : Option Addr} {c : Nat} {ys : List Tx}, Own TE (z1.alloc ob) o c ys → Own TE (z2.setCell ⟨p, 0, none⟩ (.slice o2 (t + 1) c2)) o c ys := fun hh => by
    have g1 := hh.keeps hkz (fun b q1 q2 => tags_ne hh h1.k (by decide) b q1 q2)
    exact g1.keeps hks (fun b q1 e => own_ne g1 hb2 (by decide) b q1 e)
  have hl2 : Own LE z2 oL cL ls := h1.l.keeps hkz (fun b q1 q2 => tags_ne h1.l h1.k (by decide) b q1 q2)
  refine ⟨cell_of_blk hb2 0, frozen_of_blk hb2 0, ⟨⟨o2, c2, _, ⟨hb3, ho2.keeps hks (fun b q1 e => own_ne ho2 hb2 (by decide) b q1 e), fun y hy => ?_, hl2.keeps hks (fun b q1 e => own_ne hl2 hb2 (by decide) b q1 e), by simp [← h.nk], h.nl, ?_, h.ll, h.bp, hnn, fun y hy b hb => ?_, h.bl⟩, ?_, fun j hj => ?_⟩, ?_⟩, hz, ?_⟩
  · rcases List.mem_append.1 hy with hy | hy
    · exact hT (h1.key y hy)
    · rw [List.mem_singleton.1 hy]; exact hT (ho.keepsN ((Keeps.refl no z1).alloc _))
  · rw [List.length_append, ← h.nk]; simp; omega
  · rcases List.mem_append.1 hy with hy | hy
    · exact h.bt y hy b hb
    · rw [List.mem_singleton.1 hy] at hb; exact Nat.le_trans hk.size (hn b hb)
  · rw [List.length_append, ← he.1, List.length_take, List.length_take]; simp; omega
  · have hlk : ks'.length = t := h.nk.symm
    rw [List.length_take] at hj
    rw [take_succ_getD ks t kv0 ht, getD_app2, getD_app2, List.length_take, Nat.min_eq_left (Nat.le_of_lt ht), hlk]
    by_cases e : j < t
    · rw [if_pos e, if_pos e]
      exact he.2 j (by rw [List.length_take]; omega)
    · have e' : j = t := by omega
      rw [if_neg e, if_neg e, e', Nat.sub_self, ← hx]
      exact ⟨rfl, rfl, rfl, fun _ => rfl⟩
  · exact (hk.then hz (fun b hb => .inr hb)).then hks (fun b hb => .inr (by have : b = p := hb; rw [this]; exact h.bp))
  · exact hz.then hks (fun b hb => .inl (by have : b = p := hb; rw [this]; exact h.bp))
theorem lq_all {ks : List KV} {ls : List Mk} {t : Nat} (h : ∀ j, j < t → loadedB ls (ks.getD j kv0) = true) (h1 : loadedB ls (ks.getD t kv0) = true) : ∀ j, j < t + 1 → loadedB ls (ks.getD j kv0) = true := fun j hj => by
  by_cases e : j = t
  · rw [e]; exact h1
  · exact h j (by omega)
theorem lq_lt {ks : List KV} {t : Nat} (h : ∀ j, j + 1 < t → ltk (ks.getD j kv0) (ks.getD (j + 1) kv0) = true) (h1 : t = 0 ∨ ltk (ks.getD (t - 1) kv0) (ks.getD t kv0) = true) : ∀ j, j + 1 < t + 1 → ltk (ks.getD j kv0) (ks.getD (j + 1) kv0) = true := fun j hj => by
  by_cases e : j + 1 = t
  · rcases h1 with h1 | h1
    · omega
    · rw [← e, Nat.add_sub_cancel] at h1; exact h1
  · exact h j (by omega)
def docLoad (ks : List KV) (ls : List Mk) : Bool := (ks.all (loadedB ls) && rising ltk ks) && (ls.all (there ks) && rising ltl ls)
theorem doc_f1 {ks : List KV} {ls : List Mk} {t : Nat} (ht : t < ks.length) (h : loadedB ls (ks.getD t kv0) = false) : docLoad ks ls = false := by
  have h1 : ks.all (loadedB ls) = false := by
    rw [List.all_eq_false]
    exact ⟨_, getD_mem_lt kv0 ht, by rw [h]; simp⟩
  unfold docLoad
  rw [h1]; rfl
theorem doc_f2 {ks : List KV} {ls : List Mk} {t : Nat} (ht : t + 1 < ks.length) (h : ltk (ks.getD t kv0) (ks.getD (t + 1) kv0) = false) : docLoad ks ls = false := by
  unfold docLoad
  rw [rising_fail kv0 ks t ht h, Bool.and_false]; rfl
theorem doc_f3 {ks : List KV} {ls : List Mk} {t : Nat} (ht : t < ls.length) (h : there ks (ls.getD t (e0, 0)) = false) : docLoad ks ls = false := by
  have h1 : ls.all (there ks) = false := by
    rw [List.all_eq_false]
    exact ⟨_, getD_mem_lt (e0, 0) ht, by rw [h]; simp⟩
  unfold docLoad
  rw [h1, Bool.false_and, Bool.and_false]
theorem doc_f4 {ks : List KV} {ls : List Mk} {t : Nat} (ht : t + 1 < ls.length) (h : ltl (ls.getD t (e0, 0)) (ls.getD (t + 1) (e0, 0)) = false) : docLoad ks ls = false := by
  unfold docLoad
  rw [rising_fail (e0, 0) ls t ht h, Bool.and_false, Bool.and_false]
theorem all_getD {α : Type} {f : α → Bool} (d : α) {l : List α} (h : ∀ j, j < l.length → f (l.getD j d) = true) : l.all f = true := by
  rw [List.all_eq_true]
  intro x hx
  obtain ⟨j, hj, rfl⟩ := List.getElem_of_mem hx
  have := h j hj
  rwa [List.getD_eq_getElem?_getD, List.getElem?_eq_getElem hj] at this
theorem doc_ok {ks : List KV} {ls : List Mk} (h1 : ∀ j, j < ks.length → loadedB ls (ks.getD j kv0) = true) (h2 : ∀ j, j + 1 < ks.length → ltk (ks.getD j kv0) (ks.getD (j + 1) kv0) = true) (h3 : ∀ j, j < ls.length → there ks (ls.getD j (e0, 0)) = true) (h4 : ∀ j, j + 1 < ls.length → ltl (ls.getD j (e0, 0)) (ls.getD (j + 1) (e0, 0)) = true) : docLoad ks ls = true := by
  unfold docLoad
  rw [all_getD kv0 h1, rising_of_all kv0 ks h2, all_getD (e0, 0) h3, rising_of_all (e0, 0) ls h4]; rfl
set_option maxRecDepth 10000 in
set_option maxHeartbeats 1000000 in
theorem rLoad_any (w : World) (oa : Option Addr) (na ca : Nat) (ks : List KV) (ob : Option Addr) (nb cb : Nat) (ls : List Mk) (hna : na = ks.length) (hnb : nb = ls.length) (hla : ks.length ≤ 1954687338211) (hlb : ls.length ≤ 5864062014634) (ha : Sl KE w oa ca ks) (hb : Sl LE w ob cb ls) (hi : InD w ks) :
    Calls Tryz.prog 124 #[.slice oa na ca, .slice ob nb cb] w fun e w' => (docLoad ks ls = true → ∃ p, e = .returned (.tuple #[.pointer (some ⟨p, 0, none⟩), .int .i64 0]) ∧ Hid (∃ oK cK oL cL ks', RO (fun b => w.heap.size ≤ b) w' p oK na cK oL nb cL ks' ls ∧ KsEq true ks ks' ∧ Keeps no w w')) ∧ (docLoad ks ls = false → e = .returned (.tuple #[.pointer none, .int .i64 1]) ∧ Keeps no w w') := by
  have HA : Hid (na = ks.length ∧ nb = ls.length ∧ ks.length ≤ 1954687338211 ∧ ls.length ≤ 5864062014634) := ⟨hna, hnb, hla, hlb⟩
  have hA : (na : Int) ≤ 1954687338211 := by omega
  have hB : (nb : Int) ≤ 5864062014634 := by omega
  have HS : Hid (Sl KE w oa ca ks ∧ Sl LE w ob cb ls ∧ InD w ks) := ⟨ha, hb, hi⟩
  clear hna hnb hla hlb ha hb hi
  obtain ⟨D, hD⟩ : ∃ D, docLoad ks ls = D := ⟨_, rfl⟩
  have HD : Hid (docLoad ks ls = D) := hD
  rw [hD]
  clear hD
  go_enter Tryz.func124, Tryz.ntmps124
  go_wp2_with (at_builtin; refine wpList_app okL rfl _ _ rfl _ _ _ ([] : List Mk) rfl rfl (own_nil _) _ _ _ ls rfl HA.out.2.1 HS.out.2.1.nil HS.out.2.1.row (by have := HA.out.2.2.2; simp [LE]; omega) (by have := HA.out.2.2.2; simp; omega) ?_; intro o6 c6 w6 ho6 hap6; have H6 : Hid (Own LE w6 o6 c6 ls ∧ New w o6 ∧ Keeps no w w6) := ⟨ho6, (hap6.new (new_none w) (Keeps.refl no w)).1, (hap6.new (new_none w) (Keeps.refl no w)).2⟩; clear ho6 hap6)
  have HL0 : Hid (Lq w w6.heap.size o6 nb c6 ks ls 0 (w6.alloc (.cells #[.slice none 0 0, .slice o6 nb c6] 181))) := lq_start H6.out.1 H6.out.2.1 H6.out.2.2 HA.out.2.1 HA.out.2.2.2
  generalize w6.alloc (.cells #[.slice none 0 0, .slice o6 nb c6] 181) = w7 at HL0 ⊢
  generalize w6.heap.size = p at HL0 ⊢
  clear H6
  go_loopw [7] (fun z wr => ∃ t : Nat, t ≤ na ∧ z = .int .i64 t ∧ Hid (Lq w p o6 nb c6 ks ls t wr ∧ (∀ j, j < t → loadedB ls (ks.getD j kv0) = true) ∧ ∀ j, j + 1 < t → ltk (ks.getD j kv0) (ks.getD (j + 1) kv0) = true)) (fun z _ => na - (intOf z).toNat)
  case atStart => exact ⟨0, by omega, rfl, HL0.out, fun j hj => absurd hj (Nat.not_lt_zero _), fun j hj => absurd hj (Nat.not_lt_zero _)⟩
  case round =>
    obtain ⟨t, ht, rfl, HT⟩ := hrel
    clear HL0
    by_cases htl : t < na
    · have htl' : (t : Int) < na := by omega
      have hta : t < ks.length := by have := HA.out.1; omega
      obtain ⟨g, off, e1, d0, d1, d2, d3, d4⟩ := (HS.out.1.keepsN HT.out.1.keep).atK hta
      subst e1
      obtain ⟨x, hx⟩ : ∃ x, x = ks.getD t kv0 := ⟨_, rfl⟩
      rw [← hx] at d0 d1 d2 d3 d4
      have hin := (HS.out.2.2.keepsN HT.out.1.keep).key _ (getD_mem_lt kv0 hta)
      rw [← hx] at hin
      have HX : Hid (x = ks.getD t kv0 ∧ t < ks.length) := ⟨hx, hta⟩
      obtain ⟨⟨xk, xi⟩, xv, xo, xc, xks, xst⟩ := x
      simp only at d0 d1 d2 d3 d4 hin
      obtain ⟨xn, hxn⟩ : ∃ xn, xn = xks.length := ⟨_, rfl⟩
      rw [← hxn] at d3
      have HIN : Hid (xn = xks.length ∧ Sl TE wr xo xc xks ∧ xks.length ≤ 8796093021952 ∧ xv.size ≤ 140737488355328 ∧ ∀ t ∈ xks, t.size ≤ 140737488351232) := ⟨hxn, hin.1, hin.2.1, hin.2.2.2.2.1, hin.2.2.2.2.2⟩
      clear hx hta hin hxn
      obtain ⟨oK, cK, ks', hro, hks⟩ := HT.out.1.ro
      obtain ⟨B1, hB1⟩ : ∃ B1, loadedB ls ⟨(xk, xi), xv, xo, xc, xks, xst⟩ = B1 := ⟨_, rfl⟩
      have HB1 : Hid (loadedB ls ⟨(xk, xi), xv, xo, xc, xks, xst⟩ = B1) := hB1
      have cL := call_grown (W := wr) (f := 150) (args := #[.pointer (some ⟨p, 0, none⟩), .agg #[.string xk, .int .u64 ((xi : Nat) : Int), .string xv, .slice xo xn xc, .int .i64 xst]]) (v := .bool B1) (fun X hX => by rw [← hB1]; exact loaded_any X p oK t cK o6 nb c6 ks' ls (hro.rd.keepsN hX) xk xi xv xo xn xc xks xst HIN.out.1 HIN.out.2.2.1 (HIN.out.2.1.keepsN hX) HIN.out.2.2.2.2 HIN.out.2.2.2.1)
      have HRO : Hid (RO (fun b => w.heap.size ≤ b) wr p oK t cK o6 nb c6 ks' ls ∧ KsEq true (ks.take t) ks') := ⟨hro, hks⟩
      clear hB1 hro hks
      have z0 := cell_regrown d0
      have z1 := cell_regrown d1
      have z2 := cell_regrown d2
      have z3 := cell_regrown d3
      have z4 := cell_regrown d4
      go_upto_region 5 with fail
      go_cut [46] from 21 to 45 (fun s wx => ∃ C : Bool, s = .bool C ∧ Hid (Keeps no wr wx) ∧ Hid (C = !(B1 && (decide (t = 0) || ltk (ks.getD (t - 1) kv0) (ks.getD t kv0)))))
      case first =>
        cases B1
        · refine wp_region_quiet_below (by kernel_rfl) (by kernel_rfl) ?_
          repeat (go_big_quiet_step (exact cL _ _))
          refine wpQuiet_nil ?_
          intro _ hw'
          obtain ⟨⟨dq, osq⟩, rfl⟩ := hw'
          have HK2 : Hid (Keeps no wr (Sort.grow (redrawn wr dq) osq)) := keeps_grownQ ..
          generalize Sort.grow (redrawn wr dq) osq = w2 at HK2 ⊢
          go_wp2_with fail
          go_meet
          go_light
          exact ⟨true, rfl, HK2.out, rfl⟩
        · by_cases ht0 : t = 0
          · have htp : decide ((0 : Int) < (t : Int)) = false := decide_eq_false (by omega)
            have htq : decide (0 < t) = false := decide_eq_false (by omega)
            have HT0 : Hid (decide (t = 0) = true) := decide_eq_true ht0
            clear ht0
            refine wp_region_quiet_below (by kernel_rfl) (by kernel_rfl) ?_
            repeat (go_big_quiet_step (exact cL _ _))
            refine wpQuiet_nil ?_
            intro _ hw'
            obtain ⟨⟨dq, osq⟩, rfl⟩ := hw'
            have HK2 : Hid (Keeps no wr (Sort.grow (redrawn wr dq) osq)) := keeps_grownQ ..
            generalize Sort.grow (redrawn wr dq) osq = w2 at HK2 ⊢
            go_wp2_with fail
            go_meet
            go_light
            exact ⟨false, rfl, HK2.out, by rw [HT0.out]; rfl⟩
          · obtain ⟨s, hs⟩ : ∃ s, t = s + 1 := ⟨t - 1, by omega⟩
            have hsa : s < ks.length := by have := HX.out.2; omega
            obtain ⟨g', off', e1, f0, f1, f2, f3, f4⟩ := (HS.out.1.keepsN HT.out.1.keep).atK hsa
            cases e1
            obtain ⟨y, hy⟩ : ∃ y, y = ks.getD s kv0 := ⟨_, rfl⟩
            rw [← hy] at f0 f1 f2 f3 f4
            have HY : Hid (y = ks.getD s kv0 ∧ t = s + 1) := ⟨hy, hs⟩
            obtain ⟨⟨yk, yi⟩, yv, yo, yc, yks, yst⟩ := y
            simp only at f0 f1 f2 f3 f4
            obtain ⟨yn, hyn⟩ : ∃ yn, yn = yks.length := ⟨_, rfl⟩
            rw [← hyn] at f3
            obtain ⟨B2, hB2⟩ : ∃ B2, ltM (yk, yi) (xk, xi) = B2 := ⟨_, rfl⟩
            have HB2 : Hid (ltk (ks.getD (t - 1) kv0) (ks.getD t kv0) = B2) := by
              rw [HY.out.2, Nat.add_sub_cancel, ← HY.out.1, ← HY.out.2, ← HX.out.1]
              exact hB2
            have cS := call_grown (W := wr) (f := 149) (args := #[.agg #[.string yk, .int .u64 ((yi : Nat) : Int), .string yv, .slice yo yn yc], .agg #[.string xk, .int .u64 ((xi : Nat) : Int), .string xv, .slice xo xn xc]]) (v := .bool B2) (fun X hX => by rw [← hB2]; exact rless_any X yk yi yv yo yn yc xk xi xv xo xn xc)
            have y0 := cell_regrown f0
            have y1 := cell_regrown f1
            have y2 := cell_regrown f2
            have y3 := cell_regrown f3
            have htp : decide ((0 : Int) < (t : Int)) = true := decide_eq_true (by omega)
            have htq : decide (0 < t) = true := decide_eq_true (by omega)
            have hts : IntKind.i64.wrap ((t : Int) - 1) = ((s : Nat) : Int) := by rw [IntKind.wrap_i64]; omega
            have hsn : ((s : Nat) : Int) < na := by omega
            have HT0 : Hid (decide (t = 0) = false) := decide_eq_false ht0
            clear hy hyn hB2 hs ht0 hsa
            refine wp_region_quiet_below (by kernel_rfl) (by kernel_rfl) ?_
            repeat (go_big_quiet_step (first | exact cL _ _ | exact cS _ _))
            refine wpQuiet_nil ?_
            intro _ hw'
            obtain ⟨⟨dq, osq⟩, rfl⟩ := hw'
            have HK2 : Hid (Keeps no wr (Sort.grow (redrawn wr dq) osq)) := keeps_grownQ ..
            generalize Sort.grow (redrawn wr dq) osq = w2 at HK2 ⊢
            go_wp2_with fail
            go_meet
            go_light
            exact ⟨!B2, rfl, HK2.out, by rw [HT0.out, HB2.out]; rfl⟩
      case rest =>
      obtain ⟨C, rfl, HKc, HC⟩ := hcut
      rename World => wc
      clear cL z0 z1 z2 z3 z4
      cases C
      · have hC : B1 = true ∧ (t = 0 ∨ ltk (ks.getD (t - 1) kv0) (ks.getD t kv0) = true) := by
          have h := HC.out
          cases B1
          · cases h
          · refine ⟨rfl, ?_⟩
            cases h1 : ltk (ks.getD (t - 1) kv0) (ks.getD t kv0) with
            | true => exact .inr rfl
            | false =>
              rw [h1, Bool.or_false, Bool.true_and] at h
              exact .inl (by simpa using h)
        have HCC : Hid (loadedB ls (ks.getD t kv0) = true ∧ (t = 0 ∨ ltk (ks.getD (t - 1) kv0) (ks.getD t kv0) = true)) := ⟨by rw [← HX.out.1, HB1.out]; exact hC.1, hC.2⟩
        have HRC : Hid (RO (fun b => w.heap.size ≤ b) wc p oK t cK o6 nb c6 ks' ls ∧ KsEq true (ks.take t) ks' ∧ Keeps no w wc) := ⟨HRO.out.1.keepsN HKc.out, HRO.out.2, HT.out.1.keep.trans HKc.out⟩
        have HIC : Hid (xn = xks.length ∧ Sl TE wc xo xc xks ∧ xks.length ≤ 8796093021952) := ⟨HIN.out.1, HIN.out.2.1.keepsN HKc.out, HIN.out.2.2.1⟩
        replace d0 := HKc.out.cellN d0
        replace d1 := HKc.out.cellN d1
        replace d2 := HKc.out.cellN d2
        replace d3 := HKc.out.cellN d3
        replace d4 := HKc.out.cellN d4
        clear hC HC HB1 HRO HKc HIN
        have hXL := HX.out.2
        have hgl : g < w.heap.size := HS.out.1.lt okK (fun e => by rw [e] at hXL; simp at hXL) g ⟨_, rfl, rfl⟩
        have HSX : Hid (∀ X, Keeps (fun b => w.heap.size ≤ b) wc X → X.cell? ⟨g, off + t * 5, none⟩ = some (.string xk) ∧ X.cell? ⟨g, off + t * 5 + 1, none⟩ = some (.int .u64 ((xi : Nat) : Int)) ∧ X.cell? ⟨g, off + t * 5 + 2, none⟩ = some (.string xv) ∧ X.cell? ⟨g, off + t * 5 + 3, none⟩ = some (.slice xo xn xc) ∧ X.cell? ⟨g, off + t * 5 + 4, none⟩ = some (.int .i64 xst)) := fun X hX => ⟨hX.cell d0 (Nat.not_le_of_lt hgl), hX.cell d1 (Nat.not_le_of_lt hgl), hX.cell d2 (Nat.not_le_of_lt hgl), hX.cell d3 (Nat.not_le_of_lt hgl), hX.cell d4 (Nat.not_le_of_lt hgl)⟩
        have b0 := cell_of_blk HRC.out.1.b 0
        have b0d := (Keeps.refl no wc).drew.cellN b0
        have HK0 : Hid (Keeps (fun b => w.heap.size ≤ b) wc wc.drew) := ((Keeps.refl no wc).drew).of_no
        have HRN : Hid ((ks'.length + 1) * 72 ≤ 140737488355328 ∧ ks'.length + 1 ≤ 140737488355328) := (show _ ∧ _ by have := HRC.out.1.lk; omega)
        clear hgl hXL
        go_wp2_with fail
        refine wp_region_held_drew (S := (fun X => X.cell? ⟨g, off + t * 5, none⟩ = some (.string xk) ∧ X.cell? ⟨g, off + t * 5 + 1, none⟩ = some (.int .u64 ((xi : Nat) : Int)) ∧ X.cell? ⟨g, off + t * 5 + 2, none⟩ = some (.string xv) ∧ X.cell? ⟨g, off + t * 5 + 3, none⟩ = some (.slice xo xn xc) ∧ X.cell? ⟨g, off + t * 5 + 4, none⟩ = some (.int .i64 xst))) (by kernel_rfl) ?_ (fun hHeld => ?_)
        · first | exact HSX.out _ HK0.out | exact HSX.out _ (Keeps.refl _ wc)
        refine wpAnyH_take (i := 0) (v := ?_) (by simp only [List.getElem?_toArray, List.getElem?_cons_succ, List.getElem?_cons_zero]; rfl) (by kernel_rfl) (by kernel_rfl) (by kernel_rfl) (by exact fun _ _ _ h => h) (Or.inl ⟨by rfl, ?_⟩) (by assumption) ?_
        rotate_left
        · (intro _ hSw; (try dsimp only at hSw); go_simp; (try with_reducible rfl))
        try simp only [Act.put, List.setIfInBounds_toArray, List.set_cons_zero, List.set_cons_succ]
        refine wpAnyH_take (i := 1) (v := ?_) (by simp only [List.getElem?_toArray, List.getElem?_cons_succ, List.getElem?_cons_zero]; rfl) (by kernel_rfl) (by kernel_rfl) (by kernel_rfl) (by exact fun _ _ _ h => h) (Or.inl ⟨by rfl, ?_⟩) (by assumption) ?_
        rotate_left
        · (intro _ hSw; (try dsimp only at hSw); go_simp; (try with_reducible rfl))
        try simp only [Act.put, List.setIfInBounds_toArray, List.set_cons_zero, List.set_cons_succ]
        refine wpAnyH_take (i := 2) (v := ?_) (by simp only [List.getElem?_toArray, List.getElem?_cons_succ, List.getElem?_cons_zero]; rfl) (by kernel_rfl) (by kernel_rfl) (by kernel_rfl) (by exact fun _ _ _ h => h) (Or.inl ⟨by rfl, ?_⟩) (by assumption) ?_
        rotate_left
        · (intro _ hSw; (try dsimp only at hSw); go_simp; (try with_reducible rfl))
        try simp only [Act.put, List.setIfInBounds_toArray, List.set_cons_zero, List.set_cons_succ]
        refine wpAnyH_take (i := 3) (v := ?_) (by simp only [List.getElem?_toArray, List.getElem?_cons_succ, List.getElem?_cons_zero]; rfl) (by kernel_rfl) (by kernel_rfl) (by kernel_rfl) (by exact fun _ _ _ h => h) (Or.inl ⟨by rfl, ?_⟩) (by assumption) ?_
        rotate_left
        · (intro _ hSw; (try dsimp only at hSw); go_simp; (try with_reducible rfl))
        try simp only [Act.put, List.setIfInBounds_toArray, List.set_cons_zero, List.set_cons_succ]
        refine wpAnyH_take (i := 5) (v := ?_) (by simp only [List.getElem?_toArray, List.getElem?_cons_succ, List.getElem?_cons_zero]; rfl) (by kernel_rfl) (by kernel_rfl) (by kernel_rfl) (by exact fun _ _ _ h => h) (Or.inl ⟨by rfl, ?_⟩) (by assumption) ?_
        rotate_left
        · (intro _ hSw; (try dsimp only at hSw); go_simp; (try with_reducible rfl))
        try simp only [Act.put, List.setIfInBounds_toArray, List.set_cons_zero, List.set_cons_succ]
        refine wpAnyH_take (i := 6) (v := ?_) (by simp only [List.getElem?_toArray, List.getElem?_cons_succ, List.getElem?_cons_zero]; rfl) (by kernel_rfl) (by kernel_rfl) (by kernel_rfl) (by exact fun _ _ _ h => h) (Or.inl ⟨by rfl, ?_⟩) (by assumption) ?_
        rotate_left
        · (intro _ hSw; (try dsimp only at hSw); go_simp; (try with_reducible rfl))
        try simp only [Act.put, List.setIfInBounds_toArray, List.set_cons_zero, List.set_cons_succ]
        refine wpAnyH_take (i := 7) (v := ?_) (by simp only [List.getElem?_toArray, List.getElem?_cons_succ, List.getElem?_cons_zero]; rfl) (by kernel_rfl) (by kernel_rfl) (by kernel_rfl) (by exact fun _ _ _ h => h) (Or.inl ⟨by rfl, ?_⟩) (by assumption) ?_
        rotate_left
        · (intro _ hSw; (try dsimp only at hSw); go_simp; (try with_reducible rfl))
        try simp only [Act.put, List.setIfInBounds_toArray, List.set_cons_zero, List.set_cons_succ]
        refine wpAnyH_take (i := 8) (v := ?_) (by simp only [List.getElem?_toArray, List.getElem?_cons_succ, List.getElem?_cons_zero]; rfl) (by kernel_rfl) (by kernel_rfl) (by kernel_rfl) (by exact fun _ _ _ h => h) (Or.inl ⟨by rfl, ?_⟩) (by assumption) ?_
        rotate_left
        · (intro _ hSw; (try dsimp only at hSw); go_simp; (try with_reducible rfl))
        try simp only [Act.put, List.setIfInBounds_toArray, List.set_cons_zero, List.set_cons_succ]
        refine wpAnyH_take (i := 9) (v := ?_) (by simp only [List.getElem?_toArray, List.getElem?_cons_succ, List.getElem?_cons_zero]; rfl) (by kernel_rfl) (by kernel_rfl) (by kernel_rfl) (by exact fun _ _ _ h => h) (Or.inl ⟨by rfl, ?_⟩) (by assumption) ?_
        rotate_left
        · (intro _ hSw; (try dsimp only at hSw); go_simp; (try with_reducible rfl))
        try simp only [Act.put, List.setIfInBounds_toArray, List.set_cons_zero, List.set_cons_succ]
        refine wpAnyH_take (i := 11) (v := ?_) (by simp only [List.getElem?_toArray, List.getElem?_cons_succ, List.getElem?_cons_zero]; rfl) (by kernel_rfl) (by kernel_rfl) (by kernel_rfl) (by exact fun _ _ _ h => h) (Or.inl ⟨by rfl, ?_⟩) (by assumption) ?_
        rotate_left
        · (intro _ hSw; (try dsimp only at hSw); go_simp; (try with_reducible rfl))
        try simp only [Act.put, List.setIfInBounds_toArray, List.set_cons_zero, List.set_cons_succ]
        refine wpAnyH_take (i := 12) (v := ?_) (by simp only [List.getElem?_toArray, List.getElem?_cons_succ, List.getElem?_cons_zero]; rfl) (by kernel_rfl) (by kernel_rfl) (by kernel_rfl) (by exact fun _ _ _ h => h) (Or.inl ⟨by rfl, ?_⟩) (by assumption) ?_
        rotate_left
        · (intro _ hSw; (try dsimp only at hSw); go_simp; (try with_reducible rfl))
        try simp only [Act.put, List.setIfInBounds_toArray, List.set_cons_zero, List.set_cons_succ]
        refine wpAnyH_take (i := 13) (v := ?_) (by simp only [List.getElem?_toArray, List.getElem?_cons_succ, List.getElem?_cons_zero]; rfl) (by kernel_rfl) (by kernel_rfl) (by kernel_rfl) (by exact fun _ _ _ h => h) (Or.inl ⟨by rfl, ?_⟩) (by assumption) ?_
        rotate_left
        · (intro _ hSw; (try dsimp only at hSw); go_simp; (try with_reducible rfl))
        try simp only [Act.put, List.setIfInBounds_toArray, List.set_cons_zero, List.set_cons_succ]
        refine wpAnyH_take (i := 14) (v := ?_) (by simp only [List.getElem?_toArray, List.getElem?_cons_succ, List.getElem?_cons_zero]; rfl) (by kernel_rfl) (by kernel_rfl) (by kernel_rfl) (by exact fun _ _ _ h => h) (Or.inl ⟨by rfl, ?_⟩) (by assumption) ?_
        rotate_left
        · (intro _ hSw; (try dsimp only at hSw); go_simp; (try with_reducible rfl))
        try simp only [Act.put, List.setIfInBounds_toArray, List.set_cons_zero, List.set_cons_succ]
        refine wpAnyH_take (i := 15) (v := ?_) (by simp only [List.getElem?_toArray, List.getElem?_cons_succ, List.getElem?_cons_zero]; rfl) (by kernel_rfl) (by kernel_rfl) (by kernel_rfl) (by exact fun _ _ _ h => h) (Or.inl ⟨by rfl, ?_⟩) (by assumption) ?_
        rotate_left
        · (intro _ hSw; (try dsimp only at hSw); go_simp; (try with_reducible rfl))
        try simp only [Act.put, List.setIfInBounds_toArray, List.set_cons_zero, List.set_cons_succ]
        refine wpAnyH_ready (rs := [4, 10]) (by kernel_rfl) (by simp) ?_
        refine AllReadyH.cons (by simp only [List.getElem?_toArray, List.getElem?_cons_succ, List.getElem?_cons_zero]; rfl) (fun Kq hKq => ?_) (AllReadyH.cons (by simp only [List.getElem?_toArray, List.getElem?_cons_succ, List.getElem?_cons_zero]; rfl) (fun Kq hKq => ?_) AllReadyH.nil)
        · go_simp
          refine hKq.out _ _ ?_ (fun hHeldN => ?_)
          · first | exact HSX.out _ HK0.out | exact HSX.out _ HK1.out | exact HSX.out _ HK2.out | exact HSX.out _ HK3.out | exact HSX.out _ HK4.out
          clear hKq Kq hHeld
          have hHeld := hHeldN
          clear hHeldN
          refine wpAnyH_ready (rs := [10]) (by kernel_rfl) (by simp) ?_
          refine AllReadyH.cons (by simp only [List.getElem?_toArray, List.getElem?_cons_succ, List.getElem?_cons_zero]; rfl) (fun Kq hKq => ?_) AllReadyH.nil
          (go_simp; refine (rown_any _ xk ((xi : Nat) : Int) xv xo xn xc xks HIC.out.1 HIC.out.2.2 (HIC.out.2.1.keepsN ((Keeps.refl no wc).drew))).mono ?_; rintro e z1 ⟨on, cn, rfl, h1⟩; have Z1 : Hid (Own TE z1 on cn xks ∧ New wc on ∧ Keeps no wc z1) := ⟨h1.out.1, h1.out.2.1.of_le ((Keeps.refl no wc).drew).size, ((Keeps.refl no wc).drew).trans h1.out.2.2⟩; have b0a := Z1.out.2.2.cellN b0; have b0b := (Z1.out.2.2.alloc (.cells #[.string xk, .int .u64 ((xi : Nat) : Int), .string xv, .slice on xn cn, .int .i64 xst] 51)).cellN b0; have HK1 : Hid (Keeps (fun b => w.heap.size ≤ b) wc z1) := Z1.out.2.2.of_no; have HK2 : Hid (Keeps (fun b => w.heap.size ≤ b) wc (z1.alloc (.cells #[.string xk, .int .u64 ((xi : Nat) : Int), .string xv, .slice on xn cn, .int .i64 xst] 51))) := (Z1.out.2.2.alloc _).of_no; clear h1)
          refine hKq.out _ _ ?_ (fun hHeldN => ?_)
          · first | exact HSX.out _ HK0.out | exact HSX.out _ HK1.out | exact HSX.out _ HK2.out | exact HSX.out _ HK3.out | exact HSX.out _ HK4.out
          clear hKq Kq hHeld
          have hHeld := hHeldN
          clear hHeldN
          refine wpAnyH_take (i := 16) (v := ?_) (by simp only [List.getElem?_toArray, List.getElem?_cons_succ, List.getElem?_cons_zero]; rfl) (by kernel_rfl) (by kernel_rfl) (by kernel_rfl) (by exact fun _ _ _ h => h) (Or.inl ⟨by rfl, ?_⟩) (by assumption) ?_
          rotate_left
          · (intro _ hSw; (try dsimp only at hSw); go_simp; (try with_reducible rfl))
          try simp only [Act.put, List.setIfInBounds_toArray, List.set_cons_zero, List.set_cons_succ]
          refine wpAnyH_ready (rs := [17]) (by kernel_rfl) (by simp) ?_
          refine AllReadyH.cons (by simp only [List.getElem?_toArray, List.getElem?_cons_succ, List.getElem?_cons_zero]; rfl) (fun Kq hKq => ?_) AllReadyH.nil
          go_simp
          refine hKq.out _ _ ?_ (fun hHeldN => ?_)
          · first | exact HSX.out _ HK0.out | exact HSX.out _ HK1.out | exact HSX.out _ HK2.out | exact HSX.out _ HK3.out | exact HSX.out _ HK4.out
          clear hKq Kq hHeld
          have hHeld := hHeldN
          clear hHeldN
          refine wpAnyH_ready (rs := [18]) (by kernel_rfl) (by simp) ?_
          refine AllReadyH.cons (by simp only [List.getElem?_toArray, List.getElem?_cons_succ, List.getElem?_cons_zero]; rfl) (fun Kq hKq => ?_) AllReadyH.nil
          (have HOW : Hid (Own KE (z1.alloc (.cells #[.string xk, .int .u64 ((xi : Nat) : Int), .string xv, .slice on xn cn, .int .i64 xst] 51)) oK cK ks') := HRC.out.1.k.keepsN (Z1.out.2.2.alloc _); have HRW : Hid (Row KE (z1.alloc (.cells #[.string xk, .int .u64 ((xi : Nat) : Int), .string xv, .slice on xn cn, .int .i64 xst] 51)) (some ⟨z1.heap.size, 0, none⟩) [⟨(xk, xi), xv, on, cn, xks, xst⟩]) := (by have hh := (own_oneK z1 ⟨(xk, xi), xv, on, cn, xks, xst⟩).row; rw [← HIC.out.1] at hh; exact hh); refine step_appW okK rfl (.tmp 51) (.tmp 64) rfl oK t cK ks' rfl HRC.out.1.nk HOW.out (some ⟨z1.heap.size, 0, none⟩) 1 1 [⟨(xk, xi), xv, on, cn, xks, xst⟩] rfl rfl (fun e => by cases e) HRW.out HRN.out.1 HRN.out.2 ?_; intro o2 c2 z2 ho2 hap2; have hq := lq_push HRC.out.1 HRC.out.2.1 HRC.out.2.2 Z1.out.1 Z1.out.2.1 Z1.out.2.2 HX.out.1 HX.out.2 (by have := HA.out; omega) ho2 hap2; have HQ : Hid (Lq w p o6 nb c6 ks ls (t + 1) (z2.setCell ⟨p, 0, none⟩ (.slice o2 (t + 1) c2))) := hq.2.2.1; have HK3 : Hid (Keeps (fun b => w.heap.size ≤ b) wc z2) := hq.2.2.2.1; have HK4 : Hid (Keeps (fun b => w.heap.size ≤ b) wc (z2.setCell ⟨p, 0, none⟩ (.slice o2 (t + 1) c2))) := hq.2.2.2.2; have b2 := hq.1; have f2 := hq.2.1; clear hq ho2 hap2)
          refine hKq.out _ _ ?_ (fun hHeldN => ?_)
          · first | exact HSX.out _ HK0.out | exact HSX.out _ HK1.out | exact HSX.out _ HK2.out | exact HSX.out _ HK3.out | exact HSX.out _ HK4.out
          clear hKq Kq hHeld
          have hHeld := hHeldN
          clear hHeldN
          refine wpAnyH_take (i := 19) (v := ?_) (by simp only [List.getElem?_toArray, List.getElem?_cons_succ, List.getElem?_cons_zero]; rfl) (by kernel_rfl) (by kernel_rfl) (by kernel_rfl) (by exact fun _ _ _ h => h) (Or.inl ⟨by rfl, ?_⟩) (by assumption) ?_
          rotate_left
          · (intro _ hSw; (try dsimp only at hSw); go_simp; (try with_reducible rfl))
          try simp only [Act.put, List.setIfInBounds_toArray, List.set_cons_zero, List.set_cons_succ]
          refine wpAnyH_take (i := 20) (v := ?_) (by simp only [List.getElem?_toArray, List.getElem?_cons_succ, List.getElem?_cons_zero]; rfl) (by kernel_rfl) (by kernel_rfl) (by kernel_rfl) (by exact fun _ _ _ h => h) (Or.inl ⟨by rfl, ?_⟩) (by assumption) ?_
          rotate_left
          · (intro _ hSw; (try dsimp only at hSw); go_simp; (try with_reducible rfl))
          try simp only [Act.put, List.setIfInBounds_toArray, List.set_cons_zero, List.set_cons_succ]
          refine wpAnyH_ready (rs := [21]) (by kernel_rfl) (by simp) ?_
          refine AllReadyH.cons (by simp only [List.getElem?_toArray, List.getElem?_cons_succ, List.getElem?_cons_zero]; rfl) (fun Kq hKq => ?_) AllReadyH.nil
          go_simp
          refine hKq.out _ _ ?_ (fun hHeldN => ?_)
          · first | exact HSX.out _ HK0.out | exact HSX.out _ HK1.out | exact HSX.out _ HK2.out | exact HSX.out _ HK3.out | exact HSX.out _ HK4.out
          clear hKq Kq hHeld
          have hHeld := hHeldN
          clear hHeldN
          refine wpAnyH_done (by kernel_rfl) ?_ _
          clear hHeld
          go_wp2_with fail
          go_roundw
          case rel => exact ⟨t + 1, by omega, by go_num, HQ.out, lq_all HT.out.2.1 HCC.out.1, lq_lt HT.out.2.2 HCC.out.2⟩
          case measure => simp [intOf]; omega
        · (go_simp; refine (rown_any _ xk ((xi : Nat) : Int) xv xo xn xc xks HIC.out.1 HIC.out.2.2 (HIC.out.2.1.keepsN ((Keeps.refl no wc).drew))).mono ?_; rintro e z1 ⟨on, cn, rfl, h1⟩; have Z1 : Hid (Own TE z1 on cn xks ∧ New wc on ∧ Keeps no wc z1) := ⟨h1.out.1, h1.out.2.1.of_le ((Keeps.refl no wc).drew).size, ((Keeps.refl no wc).drew).trans h1.out.2.2⟩; have b0a := Z1.out.2.2.cellN b0; have b0b := (Z1.out.2.2.alloc (.cells #[.string xk, .int .u64 ((xi : Nat) : Int), .string xv, .slice on xn cn, .int .i64 xst] 51)).cellN b0; have HK1 : Hid (Keeps (fun b => w.heap.size ≤ b) wc z1) := Z1.out.2.2.of_no; have HK2 : Hid (Keeps (fun b => w.heap.size ≤ b) wc (z1.alloc (.cells #[.string xk, .int .u64 ((xi : Nat) : Int), .string xv, .slice on xn cn, .int .i64 xst] 51))) := (Z1.out.2.2.alloc _).of_no; clear h1)
          refine hKq.out _ _ ?_ (fun hHeldN => ?_)
          · first | exact HSX.out _ HK0.out | exact HSX.out _ HK1.out | exact HSX.out _ HK2.out | exact HSX.out _ HK3.out | exact HSX.out _ HK4.out
          clear hKq Kq hHeld
          have hHeld := hHeldN
          clear hHeldN
          refine wpAnyH_take (i := 16) (v := ?_) (by simp only [List.getElem?_toArray, List.getElem?_cons_succ, List.getElem?_cons_zero]; rfl) (by kernel_rfl) (by kernel_rfl) (by kernel_rfl) (by exact fun _ _ _ h => h) (Or.inl ⟨by rfl, ?_⟩) (by assumption) ?_
          rotate_left
          · (intro _ hSw; (try dsimp only at hSw); go_simp; (try with_reducible rfl))
          try simp only [Act.put, List.setIfInBounds_toArray, List.set_cons_zero, List.set_cons_succ]
          refine wpAnyH_ready (rs := [4, 17]) (by kernel_rfl) (by simp) ?_
          refine AllReadyH.cons (by simp only [List.getElem?_toArray, List.getElem?_cons_succ, List.getElem?_cons_zero]; rfl) (fun Kq hKq => ?_) (AllReadyH.cons (by simp only [List.getElem?_toArray, List.getElem?_cons_succ, List.getElem?_cons_zero]; rfl) (fun Kq hKq => ?_) AllReadyH.nil)
          · go_simp
            refine hKq.out _ _ ?_ (fun hHeldN => ?_)
            · first | exact HSX.out _ HK0.out | exact HSX.out _ HK1.out | exact HSX.out _ HK2.out | exact HSX.out _ HK3.out | exact HSX.out _ HK4.out
            clear hKq Kq hHeld
            have hHeld := hHeldN
            clear hHeldN
            refine wpAnyH_ready (rs := [17]) (by kernel_rfl) (by simp) ?_
            refine AllReadyH.cons (by simp only [List.getElem?_toArray, List.getElem?_cons_succ, List.getElem?_cons_zero]; rfl) (fun Kq hKq => ?_) AllReadyH.nil
            go_simp
            refine hKq.out _ _ ?_ (fun hHeldN => ?_)
            · first | exact HSX.out _ HK0.out | exact HSX.out _ HK1.out | exact HSX.out _ HK2.out | exact HSX.out _ HK3.out | exact HSX.out _ HK4.out
            clear hKq Kq hHeld
            have hHeld := hHeldN
            clear hHeldN
            refine wpAnyH_ready (rs := [18]) (by kernel_rfl) (by simp) ?_
            refine AllReadyH.cons (by simp only [List.getElem?_toArray, List.getElem?_cons_succ, List.getElem?_cons_zero]; rfl) (fun Kq hKq => ?_) AllReadyH.nil
            (have HOW : Hid (Own KE (z1.alloc (.cells #[.string xk, .int .u64 ((xi : Nat) : Int), .string xv, .slice on xn cn, .int .i64 xst] 51)) oK cK ks') := HRC.out.1.k.keepsN (Z1.out.2.2.alloc _); have HRW : Hid (Row KE (z1.alloc (.cells #[.string xk, .int .u64 ((xi : Nat) : Int), .string xv, .slice on xn cn, .int .i64 xst] 51)) (some ⟨z1.heap.size, 0, none⟩) [⟨(xk, xi), xv, on, cn, xks, xst⟩]) := (by have hh := (own_oneK z1 ⟨(xk, xi), xv, on, cn, xks, xst⟩).row; rw [← HIC.out.1] at hh; exact hh); refine step_appW okK rfl (.tmp 51) (.tmp 64) rfl oK t cK ks' rfl HRC.out.1.nk HOW.out (some ⟨z1.heap.size, 0, none⟩) 1 1 [⟨(xk, xi), xv, on, cn, xks, xst⟩] rfl rfl (fun e => by cases e) HRW.out HRN.out.1 HRN.out.2 ?_; intro o2 c2 z2 ho2 hap2; have hq := lq_push HRC.out.1 HRC.out.2.1 HRC.out.2.2 Z1.out.1 Z1.out.2.1 Z1.out.2.2 HX.out.1 HX.out.2 (by have := HA.out; omega) ho2 hap2; have HQ : Hid (Lq w p o6 nb c6 ks ls (t + 1) (z2.setCell ⟨p, 0, none⟩ (.slice o2 (t + 1) c2))) := hq.2.2.1; have HK3 : Hid (Keeps (fun b => w.heap.size ≤ b) wc z2) := hq.2.2.2.1; have HK4 : Hid (Keeps (fun b => w.heap.size ≤ b) wc (z2.setCell ⟨p, 0, none⟩ (.slice o2 (t + 1) c2))) := hq.2.2.2.2; have b2 := hq.1; have f2 := hq.2.1; clear hq ho2 hap2)
            refine hKq.out _ _ ?_ (fun hHeldN => ?_)
            · first | exact HSX.out _ HK0.out | exact HSX.out _ HK1.out | exact HSX.out _ HK2.out | exact HSX.out _ HK3.out | exact HSX.out _ HK4.out
            clear hKq Kq hHeld
            have hHeld := hHeldN
            clear hHeldN
            refine wpAnyH_take (i := 19) (v := ?_) (by simp only [List.getElem?_toArray, List.getElem?_cons_succ, List.getElem?_cons_zero]; rfl) (by kernel_rfl) (by kernel_rfl) (by kernel_rfl) (by exact fun _ _ _ h => h) (Or.inl ⟨by rfl, ?_⟩) (by assumption) ?_
            rotate_left
            · (intro _ hSw; (try dsimp only at hSw); go_simp; (try with_reducible rfl))
            try simp only [Act.put, List.setIfInBounds_toArray, List.set_cons_zero, List.set_cons_succ]
            refine wpAnyH_take (i := 20) (v := ?_) (by simp only [List.getElem?_toArray, List.getElem?_cons_succ, List.getElem?_cons_zero]; rfl) (by kernel_rfl) (by kernel_rfl) (by kernel_rfl) (by exact fun _ _ _ h => h) (Or.inl ⟨by rfl, ?_⟩) (by assumption) ?_
            rotate_left
            · (intro _ hSw; (try dsimp only at hSw); go_simp; (try with_reducible rfl))
            try simp only [Act.put, List.setIfInBounds_toArray, List.set_cons_zero, List.set_cons_succ]
            refine wpAnyH_ready (rs := [21]) (by kernel_rfl) (by simp) ?_
            refine AllReadyH.cons (by simp only [List.getElem?_toArray, List.getElem?_cons_succ, List.getElem?_cons_zero]; rfl) (fun Kq hKq => ?_) AllReadyH.nil
            go_simp
            refine hKq.out _ _ ?_ (fun hHeldN => ?_)
            · first | exact HSX.out _ HK0.out | exact HSX.out _ HK1.out | exact HSX.out _ HK2.out | exact HSX.out _ HK3.out | exact HSX.out _ HK4.out
            clear hKq Kq hHeld
            have hHeld := hHeldN
            clear hHeldN
            refine wpAnyH_done (by kernel_rfl) ?_ _
            clear hHeld
            go_wp2_with fail
            go_roundw
            case rel => exact ⟨t + 1, by omega, by go_num, HQ.out, lq_all HT.out.2.1 HCC.out.1, lq_lt HT.out.2.2 HCC.out.2⟩
            case measure => simp [intOf]; omega
          · go_simp
            refine hKq.out _ _ ?_ (fun hHeldN => ?_)
            · first | exact HSX.out _ HK0.out | exact HSX.out _ HK1.out | exact HSX.out _ HK2.out | exact HSX.out _ HK3.out | exact HSX.out _ HK4.out
            clear hKq Kq hHeld
            have hHeld := hHeldN
            clear hHeldN
            refine wpAnyH_ready (rs := [4]) (by kernel_rfl) (by simp) ?_
            refine AllReadyH.cons (by simp only [List.getElem?_toArray, List.getElem?_cons_succ, List.getElem?_cons_zero]; rfl) (fun Kq hKq => ?_) AllReadyH.nil
            go_simp
            refine hKq.out _ _ ?_ (fun hHeldN => ?_)
            · first | exact HSX.out _ HK0.out | exact HSX.out _ HK1.out | exact HSX.out _ HK2.out | exact HSX.out _ HK3.out | exact HSX.out _ HK4.out
            clear hKq Kq hHeld
            have hHeld := hHeldN
            clear hHeldN
            refine wpAnyH_ready (rs := [18]) (by kernel_rfl) (by simp) ?_
            refine AllReadyH.cons (by simp only [List.getElem?_toArray, List.getElem?_cons_succ, List.getElem?_cons_zero]; rfl) (fun Kq hKq => ?_) AllReadyH.nil
            (have HOW : Hid (Own KE (z1.alloc (.cells #[.string xk, .int .u64 ((xi : Nat) : Int), .string xv, .slice on xn cn, .int .i64 xst] 51)) oK cK ks') := HRC.out.1.k.keepsN (Z1.out.2.2.alloc _); have HRW : Hid (Row KE (z1.alloc (.cells #[.string xk, .int .u64 ((xi : Nat) : Int), .string xv, .slice on xn cn, .int .i64 xst] 51)) (some ⟨z1.heap.size, 0, none⟩) [⟨(xk, xi), xv, on, cn, xks, xst⟩]) := (by have hh := (own_oneK z1 ⟨(xk, xi), xv, on, cn, xks, xst⟩).row; rw [← HIC.out.1] at hh; exact hh); refine step_appW okK rfl (.tmp 51) (.tmp 64) rfl oK t cK ks' rfl HRC.out.1.nk HOW.out (some ⟨z1.heap.size, 0, none⟩) 1 1 [⟨(xk, xi), xv, on, cn, xks, xst⟩] rfl rfl (fun e => by cases e) HRW.out HRN.out.1 HRN.out.2 ?_; intro o2 c2 z2 ho2 hap2; have hq := lq_push HRC.out.1 HRC.out.2.1 HRC.out.2.2 Z1.out.1 Z1.out.2.1 Z1.out.2.2 HX.out.1 HX.out.2 (by have := HA.out; omega) ho2 hap2; have HQ : Hid (Lq w p o6 nb c6 ks ls (t + 1) (z2.setCell ⟨p, 0, none⟩ (.slice o2 (t + 1) c2))) := hq.2.2.1; have HK3 : Hid (Keeps (fun b => w.heap.size ≤ b) wc z2) := hq.2.2.2.1; have HK4 : Hid (Keeps (fun b => w.heap.size ≤ b) wc (z2.setCell ⟨p, 0, none⟩ (.slice o2 (t + 1) c2))) := hq.2.2.2.2; have b2 := hq.1; have f2 := hq.2.1; clear hq ho2 hap2)
            refine hKq.out _ _ ?_ (fun hHeldN => ?_)
            · first | exact HSX.out _ HK0.out | exact HSX.out _ HK1.out | exact HSX.out _ HK2.out | exact HSX.out _ HK3.out | exact HSX.out _ HK4.out
            clear hKq Kq hHeld
            have hHeld := hHeldN
            clear hHeldN
            refine wpAnyH_take (i := 19) (v := ?_) (by simp only [List.getElem?_toArray, List.getElem?_cons_succ, List.getElem?_cons_zero]; rfl) (by kernel_rfl) (by kernel_rfl) (by kernel_rfl) (by exact fun _ _ _ h => h) (Or.inl ⟨by rfl, ?_⟩) (by assumption) ?_
            rotate_left
            · (intro _ hSw; (try dsimp only at hSw); go_simp; (try with_reducible rfl))
            try simp only [Act.put, List.setIfInBounds_toArray, List.set_cons_zero, List.set_cons_succ]
            refine wpAnyH_take (i := 20) (v := ?_) (by simp only [List.getElem?_toArray, List.getElem?_cons_succ, List.getElem?_cons_zero]; rfl) (by kernel_rfl) (by kernel_rfl) (by kernel_rfl) (by exact fun _ _ _ h => h) (Or.inl ⟨by rfl, ?_⟩) (by assumption) ?_
            rotate_left
            · (intro _ hSw; (try dsimp only at hSw); go_simp; (try with_reducible rfl))
            try simp only [Act.put, List.setIfInBounds_toArray, List.set_cons_zero, List.set_cons_succ]
            refine wpAnyH_ready (rs := [21]) (by kernel_rfl) (by simp) ?_
            refine AllReadyH.cons (by simp only [List.getElem?_toArray, List.getElem?_cons_succ, List.getElem?_cons_zero]; rfl) (fun Kq hKq => ?_) AllReadyH.nil
            go_simp
            refine hKq.out _ _ ?_ (fun hHeldN => ?_)
            · first | exact HSX.out _ HK0.out | exact HSX.out _ HK1.out | exact HSX.out _ HK2.out | exact HSX.out _ HK3.out | exact HSX.out _ HK4.out
            clear hKq Kq hHeld
            have hHeld := hHeldN
            clear hHeldN
            refine wpAnyH_done (by kernel_rfl) ?_ _
            clear hHeld
            go_wp2_with fail
            go_roundw
            case rel => exact ⟨t + 1, by omega, by go_num, HQ.out, lq_all HT.out.2.1 HCC.out.1, lq_lt HT.out.2.2 HCC.out.2⟩
            case measure => simp [intOf]; omega
      · have HF : Hid (D = false) := by
          have h := HC.out
          show _ = _
          rw [← HD.out]
          cases hb : B1 with
          | false => exact doc_f1 HX.out.2 (by rw [← HX.out.1, HB1.out, hb])
          | true =>
            rw [hb] at h
            cases h1 : ltk (ks.getD (t - 1) kv0) (ks.getD t kv0) with
            | true => rw [h1, Bool.or_true, Bool.true_and] at h; cases h
            | false =>
              rw [h1, Bool.or_false, Bool.true_and] at h
              have ht0 : ¬ t = 0 := by simpa using h
              exact doc_f2 (t := t - 1) (by have := HX.out.2; omega) (by rw [show t - 1 + 1 = t by omega]; exact h1)
        go_wp2_with fail
        go_ret2
        exact ⟨fun h => (by rw [HF.out] at h; cases h), fun _ => ⟨rfl, HT.out.1.keep.trans HKc.out⟩⟩
    · have htl' : ¬ (t : Int) < na := by omega
      have hte : t = na := by omega
      obtain ⟨oK, cK, ks', hro, hks⟩ := HT.out.1.ro
      have HL : Hid (RO (fun b => w.heap.size ≤ b) wr p oK na cK o6 nb c6 ks' ls ∧ KsEq true ks ks' ∧ Keeps no w wr ∧ (∀ j, j < ks.length → loadedB ls (ks.getD j kv0) = true) ∧ ∀ j, j + 1 < ks.length → ltk (ks.getD j kv0) (ks.getD (j + 1) kv0) = true) := by
        rw [hte] at hro hks
        rw [List.take_of_length_le (by have := HA.out.1; omega)] at hks
        exact ⟨hro, hks, HT.out.1.keep, fun j hj => HT.out.2.1 j (by have := HA.out.1; omega), fun j hj => HT.out.2.2 j (by have := HA.out.1; omega)⟩
      clear hro hks hte HT
      rename World => wx
      go_wp2_with fail
      go_loopw [8, 9, 10] (fun z _ _ wr => ∃ t : Nat, t ≤ nb ∧ z = .int .i64 t ∧ Hid (Keeps no wx wr ∧ (∀ j, j < t → there ks (ls.getD j (e0, 0)) = true) ∧ ∀ j, j + 1 < t → ltl (ls.getD j (e0, 0)) (ls.getD (j + 1) (e0, 0)) = true)) (fun z _ _ _ => nb - (intOf z).toNat)
      case atStart => exact ⟨0, by omega, rfl, Keeps.refl _ _, fun j hj => absurd hj (Nat.not_lt_zero _), fun j hj => absurd hj (Nat.not_lt_zero _)⟩
      case round =>
        obtain ⟨q, hq, rfl, HT⟩ := hrel
        by_cases hql : q < nb
        · have hql' : (q : Int) < nb := by omega
          have hqa : q < ls.length := by have := HA.out.2.1; omega
          obtain ⟨g, off, e1, d0, d1⟩ := (HS.out.2.1.keepsN (HL.out.2.2.1.trans HT.out.1)).atL hqa
          subst e1
          obtain ⟨x, hx⟩ : ∃ x, x = ls.getD q (e0, 0) := ⟨_, rfl⟩
          rw [← hx] at d0 d1
          have HX : Hid (x = ls.getD q (e0, 0) ∧ q < ls.length) := ⟨hx, hqa⟩
          obtain ⟨xk, xi⟩ := x
          simp only at d0 d1
          have HB1 : Hid (there ks' (xk, xi) = there ks (ls.getD q (e0, 0))) := by rw [← hx]; exact (there_congr HL.out.2.1 _).symm
          clear hx hqa
          obtain ⟨B1, hB1⟩ : ∃ B1, there ks (ls.getD q (e0, 0)) = B1 := ⟨_, rfl⟩
          obtain ⟨R1, hR1⟩ : ∃ R1 : Nat, fpos ks' (xk, xi) = R1 := ⟨_, rfl⟩
          have HB2 : Hid (there ks (ls.getD q (e0, 0)) = B1) := hB1
          have cF := call_grown (W := wr) (f := 115) (args := #[.pointer (some ⟨p, 0, none⟩), .string xk, .int .u64 ((xi : Nat) : Int)]) (v := .tuple #[.int .i64 ((R1 : Nat) : Int), .bool B1]) (fun X hX => by rw [← hB1, ← HB1.out, ← hR1]; exact rfind_any X p oK na cK o6 nb c6 ks' ls (HL.out.1.rd.keepsN (HT.out.1.trans hX)) xk xi)
          have z0 := cell_regrown d0
          have z1 := cell_regrown d1
          go_wp2_with fail
          refine wp_region_quiet_below (by kernel_rfl) (by kernel_rfl) ?_
          repeat (go_big_quiet_step (exact cF _ _))
          refine wpQuiet_nil ?_
          intro _ hw'
          obtain ⟨⟨dq, osq⟩, rfl⟩ := hw'
          have HKz : Hid (Keeps no wr (Sort.grow (redrawn wr dq) osq)) := keeps_grownQ ..
          generalize Sort.grow (redrawn wr dq) osq = w1 at HKz ⊢
          have HK1 : Hid (Keeps no wx w1) := HT.out.1.trans HKz.out
          replace d0 := HKz.out.cellN d0
          replace d1 := HKz.out.cellN d1
          clear hB1 hR1 HB1 cF z0 z1
          cases B1
          · have HF : Hid (D = false) := by
              show _ = _
              rw [← HD.out]
              exact doc_f3 HX.out.2 HB2.out
            clear HKz
            go_wp2_with fail
            refine wp_region_quiet_below (by kernel_rfl) (by kernel_rfl) ?_
            repeat (go_big_quiet_step (fail))
            refine wpQuiet_nil ?_
            intro _ hw'
            obtain ⟨⟨dq, osq⟩, rfl⟩ := hw'
            have HK2 : Hid (Keeps no wx (Sort.grow (redrawn w1 dq) osq)) := HK1.out.trans (keeps_grownQ ..)
            generalize Sort.grow (redrawn w1 dq) osq = w2 at HK2 ⊢
            go_wp2_with fail
            go_ret2
            exact ⟨fun h => (by rw [HF.out] at h; cases h), fun _ => ⟨rfl, HL.out.2.2.1.trans HK2.out⟩⟩
          · have z0 := cell_regrown d0
            by_cases hq0 : q = 0
            · have htp : decide ((0 : Int) < (q : Int)) = false := decide_eq_false (by omega)
              have htq : decide (0 < q) = false := decide_eq_false (by omega)
              have HQ0 : Hid (q = 0) := hq0
              clear hq0 HKz
              go_wp2_with fail
              refine wp_region_quiet_below (by kernel_rfl) (by kernel_rfl) ?_
              repeat (go_big_quiet_step (fail))
              refine wpQuiet_nil ?_
              intro _ hw'
              obtain ⟨⟨dq, osq⟩, rfl⟩ := hw'
              have HK2 : Hid (Keeps no wx (Sort.grow (redrawn w1 dq) osq)) := HK1.out.trans (keeps_grownQ ..)
              generalize Sort.grow (redrawn w1 dq) osq = w2 at HK2 ⊢
              go_wp2_with fail
              go_roundw
              case rel => exact ⟨q + 1, by omega, by go_num, HK2.out, lt_all HT.out.2.1 HB2.out, lt_lt HT.out.2.2 (.inl HQ0.out)⟩
              case measure => simp [intOf]; omega
            · obtain ⟨s, hs⟩ : ∃ s, q = s + 1 := ⟨q - 1, by omega⟩
              have hsa : s < ls.length := by have := HX.out.2; omega
              obtain ⟨g', off', e1, f0, f1⟩ := (HS.out.2.1.keepsN (HL.out.2.2.1.trans HK1.out)).atL hsa
              cases e1
              obtain ⟨y, hy⟩ : ∃ y, y = ls.getD s (e0, 0) := ⟨_, rfl⟩
              rw [← hy] at f0 f1
              obtain ⟨yk, yi⟩ := y
              simp only at f0 f1
              have HY : Hid ((yk, yi) = ls.getD s (e0, 0) ∧ q = s + 1) := ⟨hy, hs⟩
              have y0 := cell_regrown f0
              have htp : decide ((0 : Int) < (q : Int)) = true := decide_eq_true (by omega)
              have htq : decide (0 < q) = true := decide_eq_true (by omega)
              have hts : IntKind.i64.wrap ((q : Int) - 1) = ((s : Nat) : Int) := by rw [IntKind.wrap_i64]; omega
              have hsn : ((s : Nat) : Int) < nb := by omega
              clear hy hs hq0 hsa HKz
              cases hlt : Op.bytesLess yk.toList xk.toList
              · have HF : Hid (D = false) := by
                  show _ = _
                  rw [← HD.out]
                  refine doc_f4 (t := s) (by have := HX.out.2; have := HY.out.2; omega) ?_
                  rw [← HY.out.2, ← HY.out.1, ← HX.out.1]
                  exact hlt
                go_wp2_with fail
                refine wp_region_quiet_below (by kernel_rfl) (by kernel_rfl) ?_
                repeat (go_big_quiet_step (fail))
                refine wpQuiet_nil ?_
                intro _ hw'
                obtain ⟨⟨dq, osq⟩, rfl⟩ := hw'
                have HK2 : Hid (Keeps no wx (Sort.grow (redrawn w1 dq) osq)) := HK1.out.trans (keeps_grownQ ..)
                generalize Sort.grow (redrawn w1 dq) osq = w2 at HK2 ⊢
                go_wp2_with fail
                go_ret2
                exact ⟨fun h => (by rw [HF.out] at h; cases h), fun _ => ⟨rfl, HL.out.2.2.1.trans HK2.out⟩⟩
              · have HLT : Hid (ltl (ls.getD (q - 1) (e0, 0)) (ls.getD q (e0, 0)) = true) := by
                  rw [← HX.out.1, HY.out.2, Nat.add_sub_cancel, ← HY.out.1]
                  exact hlt
                go_wp2_with fail
                refine wp_region_quiet_below (by kernel_rfl) (by kernel_rfl) ?_
                repeat (go_big_quiet_step (fail))
                refine wpQuiet_nil ?_
                intro _ hw'
                obtain ⟨⟨dq, osq⟩, rfl⟩ := hw'
                have HK2 : Hid (Keeps no wx (Sort.grow (redrawn w1 dq) osq)) := HK1.out.trans (keeps_grownQ ..)
                generalize Sort.grow (redrawn w1 dq) osq = w2 at HK2 ⊢
                go_wp2_with fail
                go_roundw
                case rel => exact ⟨q + 1, by omega, by go_num, HK2.out, lt_all HT.out.2.1 HB2.out, lt_lt HT.out.2.2 (.inr HLT.out)⟩
                case measure => simp [intOf]; omega
        · have hql' : ¬ (q : Int) < nb := by omega
          have HF : Hid (D = true) := by
            show _ = _
            rw [← HD.out]
            exact doc_ok HL.out.2.2.2.1 HL.out.2.2.2.2 (fun j hj => HT.out.2.1 j (by have := HA.out.2.1; omega)) (fun j hj => HT.out.2.2 j (by have := HA.out.2.1; omega))
          go_wp2_with fail
          go_ret2
          refine ⟨fun _ => ⟨p, rfl, oK, cK, o6, c6, ks', HL.out.1.keepsN HT.out.1, HL.out.2.1, HL.out.2.2.1.trans HT.out.1⟩, fun h => (by rw [HF.out] at h; cases h)⟩
end Go.Proofs.YtbnohdgdadfjlaaGreatDoor
