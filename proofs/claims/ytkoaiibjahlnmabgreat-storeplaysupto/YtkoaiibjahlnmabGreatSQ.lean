import Derived.Test.YtkoaiibjahlnmabGreatOf
import Derived.Test.YtkoaiibjahlnmabGreatDY
/- Committed. -/
namespace Go.Proofs.YtkoaiibjahlnmabGreat
open Go.RowKit Go.Maps
set_option linter.unusedVariables false
set_option linter.unusedSimpArgs false

structure CJ (w : World) (s : St) (i sb r : Nat) (l : List Tx) (lf : Tx → Bool) (wr : World) : Prop where
  rg : Rng KT vvU wr sb r (setL l) lf
  kp : Keeps no w wr
  ok : ∀ k, k ∈ l → lf k = false → ¬ s.last k < i
set_option maxRecDepth 10000 in
set_option maxHeartbeats 2000000 in
theorem committed_any (w : World) (p : Nat) (T : Nat → Option Ro) (s : St) (N : Nat) (i : Nat) (h : IsS w p T s N) (hi : i < 18446744073709551616) (hla : ∀ k, s.last k < 18446744073709551616) :
    Calls Tryz.prog 26 #[.pointer (some ⟨p, 0, none⟩), .int .u64 ((i : Nat) : Int)] w fun e w' => (∃ B : Bool, e = .returned (.bool B) ∧ Hid (B = true ↔ ∀ k, s.V (k, i) ≠ none → ¬ s.last k < i)) ∧ Keeps no w w' := by
  obtain ⟨y, hy⟩ := h
  have c2 := hy.c2
  have HH : Hid (SL w p T s N y ∧ i < 18446744073709551616 ∧ ∀ k, s.last k < 18446744073709551616) := ⟨hy, hi, hla⟩
  cases hf : fnd i y.W with
  | none =>
    have hl := lookW_none hy.mw hi hf
    have HE : Hid (∀ k, s.V (k, i) ≠ none → ¬ s.last k < i) := fun k hk => by
      obtain ⟨q, hq, _⟩ := (hy.sw i k).1 hk
      rw [hf] at hq; cases hq
    have hrn := fun w => run_range_nilMap (P := Tryz.prog) w 85 9 127 Tryz.underlying85
    have hnn := fun w ty a b s => run_next_nilMap (P := Tryz.prog) w ty a b s
    clear hf hy hi hla
    go_enter Tryz.func26, Tryz.ntmps26
    go_wp2_with fail
    go_loopw [5] (fun _ wr => wr = w.alloc (.mapIter none 0 #[] 0)) (fun _ _ => 0)
    case atStart => rfl
    case round =>
      subst hrel
      go_wp2_with fail
      go_ret
      exact ⟨⟨true, rfl, fun _ => HE.out, fun _ => rfl⟩, (Keeps.refl _ w).alloc _⟩
  | some q =>
    obtain ⟨sb, l⟩ := q
    have hl := lookW_some hy.mw hi hf
    simp only at hl
    have hset := hy.set _ (fnd_mem hf)
    simp only at hset
    have HSET : Hid (∀ k, k ∈ l ↔ s.V (k, i) ≠ none) := fun k => by rw [hy.sw i k, hf]; simp
    have hmap := hset
    clear hf hy hi hla hset
    go_enter Tryz.func26, Tryz.ntmps26
    go_wp2_with (first | (at_range; refine wpList_mrange rfl _ 85 rfl KT lawT vvU 127 Tryz.underlying85 sb (setL l) rfl hmap ?_; intro w0 hrg0 hk0 hs0) | go_in)
    go_frame
    have H0 : Hid (CJ w s i sb w.heap.size l (fun k => (fnd k (setL l)).isSome) w0) := ⟨hrg0, hk0, fun k hk hk2 => by rw [fnd_setL_some hk] at hk2; cases hk2⟩
    obtain ⟨r, hr⟩ : ∃ r, r = w.heap.size := ⟨_, rfl⟩
    rw [← hr] at H0 ⊢
    have HR : Hid (r = w.heap.size) := hr
    clear hrg0 hk0 hs0 hl hr hmap
    go_loopw [5] (fun _ wr => ∃ lf : Tx → Bool, Hid (CJ w s i sb r l lf wr)) (fun _ wr => wr.rangeLeft sb r)
    case atStart => exact ⟨_, H0⟩
    case round =>
      clear H0
      obtain ⟨lf, HC⟩ := hrel
      have hrg := HC.out.rg
      go_wp2_with (first | (at_next; refine wpList_mnext rfl _ rfl KT lawT vvU sb r (setL l) lf rfl hrg ?_ ?_) | go_in)
      · intro hdone
        have HE : Hid (∀ k, s.V (k, i) ≠ none → ¬ s.last k < i) := fun k hv => by
          have h1 := hdone k (HH.out.1.okM hv).1
          exact HC.out.ok k ((HSET.out k).2 hv) (by simpa using h1)
        clear hdone hrg
        go_wp2_with fail
        go_ret
        exact ⟨⟨true, rfl, fun _ => HE.out, fun _ => rfl⟩, HC.out.kp⟩
      · intro k u w1 hok hlf hfk hrg1 hlt hk1 hs1 hen
        change (Instr.entry (.pointer (some ⟨r, 0, none⟩))).run Tryz.prog w1 = .ok (.tuple #[.string k, .agg #[]]) w1 at hen
        have hkl : k ∈ l := by
          have := fnd_mem hfk
          simp [setL] at this
          exact this
        have hv := (HSET.out k).1 hkl
        have hkp : Keeps no w w1 := HC.out.kp.then hk1 (fun b hb => .inr (by have : b = r := hb; have := HR.out; omega))
        have hy1 : SL w1 p T s N y := HH.out.1.keeps hkp (fun _ _ => id)
        obtain ⟨x, hx⟩ := hy1.hv k i hv
        have hsl := hy1.sl k
        simp only [lastOf, hx] at hsl
        have c1 := hy1.c1
        have hlk := lookL_some hy1.ml hok hx
        have d0 : w1.cell? ⟨x.p, 0, none⟩ = some (.int .u64 ((s.last k : Nat) : Int)) := by rw [hsl]; exact cell_of_blk (hy1.line _ (fnd_mem hx)).blk 0
        have K1 : Hid (Rng KT vvU w1 sb r (setL l) (fun z => lf z && !decide (z = k)) ∧ w1.rangeLeft sb r < wr.rangeLeft sb r ∧ Keeps no w w1 ∧ s.V (k, i) ≠ none ∧ k ∈ l) := ⟨hrg1, hlt, hkp, hv, hkl⟩
        obtain ⟨L, hL⟩ : ∃ L, s.last k = L := ⟨_, rfl⟩
        rw [hL] at d0
        have HL : Hid (s.last k = L) := hL
        clear hrg hok hlf hfk hrg1 hlt hk1 hs1 hkl hv hy1 hx hsl hkp hL
        by_cases hlt : L < i
        · have hlt' : ((L : Nat) : Int) < ((i : Nat) : Int) := by omega
          have HF : Hid (¬ ∀ k, s.V (k, i) ≠ none → ¬ s.last k < i) := fun hh => hh k K1.out.2.2.2.1 (by rw [HL.out]; exact hlt)
          clear hlt
          go_wp2_with fail
          go_ret
          exact ⟨⟨false, rfl, fun h => (by cases h), fun h => absurd h HF.out⟩, K1.out.2.2.1⟩
        · have hlt' : ¬ ((L : Nat) : Int) < ((i : Nat) : Int) := by omega
          have HF : Hid (¬ s.last k < i) := by rw [HL.out]; exact hlt
          clear hlt
          go_wp2_with fail
          go_roundw
          case rel =>
            refine ⟨_, K1.out.1, K1.out.2.2.1, fun z hz hz2 => ?_⟩
            by_cases e : z = k
            · rw [e]; exact HF.out
            · exact HC.out.ok z hz (by simpa [e] using hz2)
          case measure => exact K1.out.2.1
theorem Ow.committed {w0 w : World} {p : Nat} {s : St} {N : Nat} {P : Nat → Prop} (h : Ow w0 w p s N P) (i : Nat) (hi : i < 18446744073709551616) :
    Calls Tryz.prog 26 #[.pointer (some ⟨p, 0, none⟩), .int .u64 ((i : Nat) : Int)] w fun e w' => (∃ B : Bool, e = .returned (.bool B) ∧ Hid (B = true ↔ ∀ k, s.V (k, i) ≠ none → ¬ s.last k < i)) ∧ Keeps no w w' := by
  obtain ⟨T, h, _⟩ := h
  exact committed_any w p T s N i h.is hi h.ok.last_lt
theorem Ow.hasN {w0 w : World} {p : Nat} {s : St} {N : Nat} {P : Nat → Prop} (h : Ow w0 w p s N P) (i : Nat) (hi : i < 18446744073709551616) :
    Calls Tryz.prog 24 #[.pointer (some ⟨p, 0, none⟩), .int .u64 ((i : Nat) : Int)] w fun e w' => (∃ n : Nat, e = .returned (.int .i64 ((n : Nat) : Int)) ∧ Hid (CountOf s i n)) ∧ Keeps no w w' := by
  obtain ⟨T, h, _⟩ := h
  refine (hasN_any w p T s N i h.is hi).mono ?_
  rintro e w' ⟨h1, rfl⟩
  exact ⟨h1, Keeps.refl _ _⟩
end Go.Proofs.YtkoaiibjahlnmabGreat
/- StorePlays: both sides. -/
namespace Go.Proofs.YtkoaiibjahlnmabGreat
open Go.RowKit Go.Maps Go.Sort Orl
set_option linter.unusedVariables false
set_option linter.unusedSimpArgs false

theorem Rl.len {s : St} {ks : List KV} {ls : List Mk} (h : Rl s ks ls) (hok : Ok s) : ls.length ≤ ks.length := by
  have hnd : ls.Nodup := by
    have := inc_nodup swoT h.la.1
    unfold List.Nodup at this ⊢
    rw [List.pairwise_map] at this
    exact List.Pairwise.imp (fun hab e => hab (by rw [e])) this
  have := len_sub ls (ks.map (·.m)) hnd (fun l hl => by
    obtain ⟨k, i⟩ := l
    obtain ⟨h1, h2⟩ := (h.la.2 k i).1 hl
    have := hok.la k (by rw [h1]; exact h2)
    rw [h1] at this
    exact h.all _ this)
  rw [List.length_map] at this
  exact this
theorem Rl.kd {s : St} {ks kb : List KV} {ls : List Mk} (h : Rl s ks ls) (he : KsEq ks kb) : IsKs s kb ∧ (∀ m, s.V m ≠ none → m ∈ kb.map (·.m)) ∧ Inc ltM (kb.map (·.m)) := by
  refine ⟨fun x hx => ?_, fun m hm => by rw [← ksEq_m he]; exact h.all m hm, by rw [← ksEq_m he]; exact h.inc⟩
  obtain ⟨j, hj, rfl⟩ := List.getElem_of_mem hx
  have hj1 : j < ks.length := by rw [he.1]; exact hj
  obtain ⟨q1, q2, q3, q4⟩ := he.2 j hj1
  have g2 : kb.getD j kv0 = kb[j] := by simp [List.getD_eq_getElem?_getD, hj]
  rw [g2] at q1 q2 q3 q4
  rw [← q1, h.is _ (getD_mem_lt kv0 hj1), q2, q3, q4]
/-- both stores, in one state; x: the pair of them -/
structure Sd (w0 : World) (X p r : Nat) (P B : Nat → Prop) (oK : Option Addr) (nK cK : Nat) (oL : Option Addr) (nL cL : Nat) (ks : List KV) (ls : List Mk) (s : St) (N : Nat) (w : World) : Prop where
  ow : Ow w0 w p s N P
  ro : RO B w r oK nK cK oL nL cL ks ls
  sub : ∀ b, B b → P b
  px : P X
  bx : ¬ B X
  x : w.heap[X]? = some (.cells #[.pointer (some ⟨p, 0, none⟩), .pointer (some ⟨r, 0, none⟩)] 30 (0, 0))
  rl : Rl s ks ls
  nk : ks.length ≤ N
section
variable {w0 : World} {X p r : Nat} {P B : Nat → Prop} {oK : Option Addr} {nK cK : Nat} {oL : Option Addr} {nL cL : Nat} {ks : List KV} {ls : List Mk} {s : St} {N : Nat} {w w' : World}
theorem Sd.go (h : Sd w0 X p r P B oK nK cK oL nL cL ks ls s N w) (hk : Keeps no w w') : Sd w0 X p r P B oK nK cK oL nL cL ks ls s N w' :=
  ⟨h.ow.go hk, h.ro.keepsN hk, h.sub, h.px, h.bx, hk.at h.x id, h.rl, h.nk⟩
theorem Sd.rk (h : Sd w0 X p r P B oK nK cK oL nL cL ks ls s N w) : RK w ks := ⟨fun x hx => ⟨(h.ro.key x hx).sl, by have := h.ow.ok.v.len (h.rl.is x hx); simp only at this; omega⟩⟩
/-- behind the program's call -/
structure Sp (w0 : World) (X p r : Nat) (P B : Nat → Prop) (oK : Option Addr) (nK cK : Nat) (oL : Option Addr) (nL cL : Nat) (ks : List KV) (ls : List Mk) (s : St) (N : Nat) (w : World) : Prop where
  ow : Ow w0 w p s N P
  ro : RO B w r oK nK cK oL nL cL ks ls
  sub : ∀ b, B b → P b
  px : P X
  bx : ¬ B X
  x : w.heap[X]? = some (.cells #[.pointer (some ⟨p, 0, none⟩), .pointer (some ⟨r, 0, none⟩)] 30 (0, 0))
theorem Sd.prog (h : Sd w0 X p r P B oK nK cK oL nL cL ks ls s N w) {s' : St} {N' : Nat} (ho : Ow w0 w' p s' N' P) (hk : Keeps (fun b => ¬ P b) w w') : Sp w0 X p r P B oK nK cK oL nL cL ks ls s' N' w' :=
  ⟨ho, h.ro.keeps hk (fun b hb hn => hn (h.sub b hb)), h.sub, h.px, h.bx, hk.at h.x (fun hn => hn h.px)⟩
theorem Sp.go {s' : St} (h : Sp w0 X p r P B oK nK cK oL nL cL ks ls s' N w) (hk : Keeps no w w') : Sp w0 X p r P B oK nK cK oL nL cL ks ls s' N w' :=
  ⟨h.ow.go hk, h.ro.keepsN hk, h.sub, h.px, h.bx, hk.at h.x id⟩
theorem Ow.wide (h : Ow w0 w p s N P) (hk : Keeps P w w') : Ow w0 w' p s N (fun b => P b ∨ (w.heap.size ≤ b ∧ b < w'.heap.size)) := by
  obtain ⟨T, h1, h4⟩ := h
  refine ⟨T, ⟨h1.is.keeps hk (fun b hb hc => hb (h4 b hc).1), h1.ok, h1.new, h1.keep.then hk (fun b hb => .inr (h4 b hb).2.1)⟩, fun b hb => ?_⟩
  rcases hb with hb | ⟨hb1, hb2⟩
  · exact ⟨(h4 b hb).1, (h4 b hb).2.1, Nat.lt_of_lt_of_le (h4 b hb).2.2 hk.size⟩
  · refine ⟨?_, Nat.le_trans h1.keep.size hb1, hb2⟩
    cases e : T b with
    | none => rfl
    | some r => have := h1.is.lt b (by rw [e]; simp); omega
theorem RO.inb (h : RO B w p oK nK cK oL nL cL ks ls) : RO (fun b => B b ∧ b < w.heap.size) w p oK nK cK oL nL cL ks ls :=
  ⟨h.b, h.k, h.key, h.l, h.nk, h.nl, h.lk, h.ll, ⟨h.bp, lt_of_block h.b⟩, fun b hb => ⟨h.bk b hb, h.k.lt b hb⟩, fun x hx b hb => ⟨h.bt x hx b hb, (h.key x hx).lt b hb⟩, fun b hb => ⟨h.bl b hb, h.l.lt b hb⟩⟩
/-- behind the document's call -/
theorem Sp.doc {s' : St} (h : Sp w0 X p r P B oK nK cK oL nL cL ks ls s' N w) {ks' : List KV} {ls' : List Mk} (ha : Aft B w r ks' ls' w') (hr : Rl s' ks' ls') (hn : ks'.length ≤ N) : ∃ P' B' oK' nK' cK' oL' nL' cL', Sd w0 X p r P' B' oK' nK' cK' oL' nL' cL' ks' ls' s' N w' := by
  obtain ⟨⟨oK', nK', cK', oL', nL', cL', h1⟩, h2⟩ := ha
  have hx := h.ow.lt h.px
  refine ⟨_, _, oK', nK', cK', oL', nL', cL', ⟨h.ow.wide (h2.mono h.sub), h1.inb, fun b hb => ?_, .inl h.px, fun hb => ?_, h2.at h.x h.bx, hr, hn⟩⟩
  · rcases hb.1 with hb1 | hb1
    · exact .inl (h.sub b hb1)
    · exact .inr ⟨hb1, hb.2⟩
  · rcases hb.1 with hb1 | hb1
    · exact h.bx hb1
    · omega
end
set_option maxRecDepth 10000 in
set_option maxHeartbeats 1000000 in
theorem all_any {w0 : World} {X p r : Nat} {P B : Nat → Prop} {oK : Option Addr} {nK cK : Nat} {oL : Option Addr} {nL cL : Nat} {ks : List KV} {ls : List Mk} {s : St} {N : Nat} {w : World} (h : Sd w0 X p r P B oK nK cK oL nL cL ks ls s N w) (hN : N ≤ 1000000000) :
    Calls Tryz.prog 8 #[.pointer (some ⟨X, 0, none⟩)] w fun e w' => e = .returned (.bool true) ∧ Keeps no w w' := by
  have H : Hid (Sd w0 X p r P B oK nK cK oL nL cL ks ls s N w ∧ N ≤ 1000000000) := ⟨h, hN⟩
  have x0 := cell_of_blk h.x 0
  have x1 := cell_of_blk h.x 1
  have HNB : Hid (N ≤ 1954687338211) := (show _ ≤ _ by omega)
  have HSX : Hid (∀ Y, Keeps no w Y → Y.cell? ⟨X, 0, none⟩ = some (.pointer (some ⟨p, 0, none⟩)) ∧ Y.cell? ⟨X, 1, none⟩ = some (.pointer (some ⟨r, 0, none⟩))) := fun Y hY => ⟨hY.cellN x0, hY.cellN x1⟩
  clear h hN
  go_enter Tryz.func8, Tryz.ntmps8
  go_wp2_with fail
  refine wp_region_held_drew (S := (fun Y => Y.cell? ⟨X, 0, none⟩ = some (.pointer (some ⟨p, 0, none⟩)) ∧ Y.cell? ⟨X, 1, none⟩ = some (.pointer (some ⟨r, 0, none⟩)))) (by kernel_rfl) ?_ (fun hHeld => ?_)
  · first | exact HSX.out _ (Keeps.refl no w) | exact HSX.out _ ((Keeps.refl no w).drew)
  refine wpAnyH_take (i := 0) (v := ?_) (by simp only [List.getElem?_toArray, List.getElem?_cons_succ, List.getElem?_cons_zero]; rfl) (by kernel_rfl) (by kernel_rfl) (by kernel_rfl) (by exact fun _ _ _ h => h) (Or.inl ⟨by rfl, ?_⟩) (by assumption) ?_
  rotate_left
  · (intro _ hSw; (try dsimp only at hSw); go_simp; (try with_reducible rfl))
  try simp only [Act.put, List.setIfInBounds_toArray, List.set_cons_zero, List.set_cons_succ]
  refine wpAnyH_take (i := 1) (v := ?_) (by simp only [List.getElem?_toArray, List.getElem?_cons_succ, List.getElem?_cons_zero]; rfl) (by kernel_rfl) (by kernel_rfl) (by kernel_rfl) (by exact fun _ _ _ h => h) (Or.inl ⟨by rfl, ?_⟩) (by assumption) ?_
  rotate_left
  · (intro _ hSw; (try dsimp only at hSw); go_simp; (try with_reducible rfl))
  try simp only [Act.put, List.setIfInBounds_toArray, List.set_cons_zero, List.set_cons_succ]
  refine wpAnyH_take (i := 2) (v := ?_) (by simp only [List.getElem?_toArray, List.getElem?_cons_succ, List.getElem?_cons_zero]; rfl) (by kernel_rfl) (by kernel_rfl) (by kernel_rfl) (by exact fun _ _ _ h => h) (Or.inl ⟨by rfl, ?_⟩) (by assumption) ?_
  rotate_left
  · (intro _ hSw; (try dsimp only at hSw); go_simp; (try with_reducible rfl))
  try simp only [Act.put, List.setIfInBounds_toArray, List.set_cons_zero, List.set_cons_succ]
  refine wpAnyH_take (i := 3) (v := ?_) (by simp only [List.getElem?_toArray, List.getElem?_cons_succ, List.getElem?_cons_zero]; rfl) (by kernel_rfl) (by kernel_rfl) (by kernel_rfl) (by exact fun _ _ _ h => h) (Or.inl ⟨by rfl, ?_⟩) (by assumption) ?_
  rotate_left
  · (intro _ hSw; (try dsimp only at hSw); go_simp; (try with_reducible rfl))
  try simp only [Act.put, List.setIfInBounds_toArray, List.set_cons_zero, List.set_cons_succ]
  refine wpAnyH_take (i := 5) (v := ?_) (by simp only [List.getElem?_toArray, List.getElem?_cons_succ, List.getElem?_cons_zero]; rfl) (by kernel_rfl) (by kernel_rfl) (by kernel_rfl) (by exact fun _ _ _ h => h) (Or.inl ⟨by rfl, ?_⟩) (by assumption) ?_
  rotate_left
  · (intro _ hSw; (try dsimp only at hSw); go_simp; (try with_reducible rfl))
  try simp only [Act.put, List.setIfInBounds_toArray, List.set_cons_zero, List.set_cons_succ]
  refine wpAnyH_take (i := 6) (v := ?_) (by simp only [List.getElem?_toArray, List.getElem?_cons_succ, List.getElem?_cons_zero]; rfl) (by kernel_rfl) (by kernel_rfl) (by kernel_rfl) (by exact fun _ _ _ h => h) (Or.inl ⟨by rfl, ?_⟩) (by assumption) ?_
  rotate_left
  · (intro _ hSw; (try dsimp only at hSw); go_simp; (try with_reducible rfl))
  try simp only [Act.put, List.setIfInBounds_toArray, List.set_cons_zero, List.set_cons_succ]
  refine wpAnyH_take (i := 7) (v := ?_) (by simp only [List.getElem?_toArray, List.getElem?_cons_succ, List.getElem?_cons_zero]; rfl) (by kernel_rfl) (by kernel_rfl) (by kernel_rfl) (by exact fun _ _ _ h => h) (Or.inl ⟨by rfl, ?_⟩) (by assumption) ?_
  rotate_left
  · (intro _ hSw; (try dsimp only at hSw); go_simp; (try with_reducible rfl))
  try simp only [Act.put, List.setIfInBounds_toArray, List.set_cons_zero, List.set_cons_succ]
  refine wpAnyH_take (i := 8) (v := ?_) (by simp only [List.getElem?_toArray, List.getElem?_cons_succ, List.getElem?_cons_zero]; rfl) (by kernel_rfl) (by kernel_rfl) (by kernel_rfl) (by exact fun _ _ _ h => h) (Or.inl ⟨by rfl, ?_⟩) (by assumption) ?_
  rotate_left
  · (intro _ hSw; (try dsimp only at hSw); go_simp; (try with_reducible rfl))
  try simp only [Act.put, List.setIfInBounds_toArray, List.set_cons_zero, List.set_cons_succ]
  refine wpAnyH_ready (rs := [4]) (by kernel_rfl) (by simp) ?_
  refine AllReadyH.cons (by simp only [List.getElem?_toArray, List.getElem?_cons_succ, List.getElem?_cons_zero]; rfl) (fun Kq hKq => ?_) AllReadyH.nil
  (go_simp; refine ((H.out.1.go ((Keeps.refl no w).drew)).ow.keptK HNB.out).mono ?_; rintro e z1 ⟨o1, n1, c1, l1, rfl, h1⟩; have K1 : Hid (Keeps no w z1) := ((Keeps.refl no w).drew).trans h1.out.2.2.1; have D1 : Hid (Kd s l1 o1 n1 c1 z1) := h1.out.1; clear h1)
  refine hKq.out _ _ ?_ (fun hHeldN => ?_)
  · exact HSX.out _ K1.out
  clear hKq Kq hHeld
  have hHeld := hHeldN
  clear hHeldN
  refine wpAnyH_ready (rs := [9]) (by kernel_rfl) (by simp) ?_
  refine AllReadyH.cons (by simp only [List.getElem?_toArray, List.getElem?_cons_succ, List.getElem?_cons_zero]; rfl) (fun Kq hKq => ?_) AllReadyH.nil
  (go_simp; refine (rKept_any z1 r oK nK cK oL nL cL ks ls (H.out.1.go K1.out).ro.rd (H.out.1.go K1.out).rk).mono ?_; rintro e z2 ⟨o2, n2, c2, rfl, h2⟩; obtain ⟨l2, g1, g2, g3⟩ := h2.out; have hkd := H.out.1.rl.kd g3; have K2 : Hid (Keeps no w z2) := K1.out.trans g2.keep; have D2 : Hid (Kd s l2 o2 n2 c2 z2 ∧ Kd s l1 o1 n1 c1 z2) := ⟨⟨g1, g2.own, fun x hx => (g2.key x hx).1, hkd.1, hkd.2.1, hkd.2.2, H.out.1.ow.ok, by have q1 := g3.1; have q2 := H.out.1.nk; have q3 := H.out.2; omega⟩, D1.out.keepsN g2.keep⟩; clear h2 g1 g2 g3 hkd)
  refine hKq.out _ _ ?_ (fun hHeldN => ?_)
  · exact HSX.out _ K2.out
  clear hKq Kq hHeld
  have hHeld := hHeldN
  clear hHeldN
  refine wpAnyH_ready (rs := [10]) (by kernel_rfl) (by simp) ?_
  refine AllReadyH.cons (by simp only [List.getElem?_toArray, List.getElem?_cons_succ, List.getElem?_cons_zero]; rfl) (fun Kq hKq => ?_) AllReadyH.nil
  (go_simp; refine (sameKd (fun _ => rfl) D2.out.2 D2.out.1).mono ?_; rintro e z3 ⟨rfl, h3⟩; have K3 : Hid (Keeps no w z3) := K2.out.trans h3; clear h3)
  refine hKq.out _ _ ?_ (fun hHeldN => ?_)
  · exact HSX.out _ K3.out
  clear hKq Kq hHeld
  have hHeld := hHeldN
  clear hHeldN
  refine wpAnyH_take (i := 11) (v := ?_) (by simp only [List.getElem?_toArray, List.getElem?_cons_succ, List.getElem?_cons_zero]; rfl) (by kernel_rfl) (by kernel_rfl) (by kernel_rfl) (by exact fun _ _ _ h => h) (Or.inl ⟨by rfl, ?_⟩) (by assumption) ?_
  rotate_left
  · (intro _ hSw; (try dsimp only at hSw); go_simp; (try with_reducible rfl))
  try simp only [Act.put, List.setIfInBounds_toArray, List.set_cons_zero, List.set_cons_succ]
  refine wpAnyH_take (i := 12) (v := ?_) (by simp only [List.getElem?_toArray, List.getElem?_cons_succ, List.getElem?_cons_zero]; rfl) (by kernel_rfl) (by kernel_rfl) (by kernel_rfl) (by exact fun _ _ _ h => h) (Or.inl ⟨by rfl, ?_⟩) (by assumption) ?_
  rotate_left
  · (intro _ hSw; (try dsimp only at hSw); go_simp; (try with_reducible rfl))
  try simp only [Act.put, List.setIfInBounds_toArray, List.set_cons_zero, List.set_cons_succ]
  refine wpAnyH_take (i := 13) (v := ?_) (by simp only [List.getElem?_toArray, List.getElem?_cons_succ, List.getElem?_cons_zero]; rfl) (by kernel_rfl) (by kernel_rfl) (by kernel_rfl) (by exact fun _ _ _ h => h) (Or.inl ⟨by rfl, ?_⟩) (by assumption) ?_
  rotate_left
  · (intro _ hSw; (try dsimp only at hSw); go_simp; (try with_reducible rfl))
  try simp only [Act.put, List.setIfInBounds_toArray, List.set_cons_zero, List.set_cons_succ]
  refine wpAnyH_take (i := 14) (v := ?_) (by simp only [List.getElem?_toArray, List.getElem?_cons_succ, List.getElem?_cons_zero]; rfl) (by kernel_rfl) (by kernel_rfl) (by kernel_rfl) (by exact fun _ _ _ h => h) (Or.inl ⟨by rfl, ?_⟩) (by assumption) ?_
  rotate_left
  · (intro _ hSw; (try dsimp only at hSw); go_simp; (try with_reducible rfl))
  try simp only [Act.put, List.setIfInBounds_toArray, List.set_cons_zero, List.set_cons_succ]
  refine wpAnyH_take (i := 15) (v := ?_) (by simp only [List.getElem?_toArray, List.getElem?_cons_succ, List.getElem?_cons_zero]; rfl) (by kernel_rfl) (by kernel_rfl) (by kernel_rfl) (by exact fun _ _ _ h => h) (Or.inl ⟨by rfl, ?_⟩) (by assumption) ?_
  rotate_left
  · (intro _ hSw; (try dsimp only at hSw); go_simp; (try with_reducible rfl))
  try simp only [Act.put, List.setIfInBounds_toArray, List.set_cons_zero, List.set_cons_succ]
  refine wpAnyH_take (i := 17) (v := ?_) (by simp only [List.getElem?_toArray, List.getElem?_cons_succ, List.getElem?_cons_zero]; rfl) (by kernel_rfl) (by kernel_rfl) (by kernel_rfl) (by exact fun _ _ _ h => h) (Or.inl ⟨by rfl, ?_⟩) (by assumption) ?_
  rotate_left
  · (intro _ hSw; (try dsimp only at hSw); go_simp; (try with_reducible rfl))
  try simp only [Act.put, List.setIfInBounds_toArray, List.set_cons_zero, List.set_cons_succ]
  refine wpAnyH_take (i := 18) (v := ?_) (by simp only [List.getElem?_toArray, List.getElem?_cons_succ, List.getElem?_cons_zero]; rfl) (by kernel_rfl) (by kernel_rfl) (by kernel_rfl) (by exact fun _ _ _ h => h) (Or.inl ⟨by rfl, ?_⟩) (by assumption) ?_
  rotate_left
  · (intro _ hSw; (try dsimp only at hSw); go_simp; (try with_reducible rfl))
  try simp only [Act.put, List.setIfInBounds_toArray, List.set_cons_zero, List.set_cons_succ]
  refine wpAnyH_take (i := 19) (v := ?_) (by simp only [List.getElem?_toArray, List.getElem?_cons_succ, List.getElem?_cons_zero]; rfl) (by kernel_rfl) (by kernel_rfl) (by kernel_rfl) (by exact fun _ _ _ h => h) (Or.inl ⟨by rfl, ?_⟩) (by assumption) ?_
  rotate_left
  · (intro _ hSw; (try dsimp only at hSw); go_simp; (try with_reducible rfl))
  try simp only [Act.put, List.setIfInBounds_toArray, List.set_cons_zero, List.set_cons_succ]
  refine wpAnyH_take (i := 20) (v := ?_) (by simp only [List.getElem?_toArray, List.getElem?_cons_succ, List.getElem?_cons_zero]; rfl) (by kernel_rfl) (by kernel_rfl) (by kernel_rfl) (by exact fun _ _ _ h => h) (Or.inl ⟨by rfl, ?_⟩) (by assumption) ?_
  rotate_left
  · (intro _ hSw; (try dsimp only at hSw); go_simp; (try with_reducible rfl))
  try simp only [Act.put, List.setIfInBounds_toArray, List.set_cons_zero, List.set_cons_succ]
  refine wpAnyH_ready (rs := [16]) (by kernel_rfl) (by simp) ?_
  refine AllReadyH.cons (by simp only [List.getElem?_toArray, List.getElem?_cons_succ, List.getElem?_cons_zero]; rfl) (fun Kq hKq => ?_) AllReadyH.nil
  (go_simp; refine ((H.out.1.go K3.out).ow.lastsK HNB.out).mono ?_; rintro e z4 ⟨o4, n4, c4, l4, rfl, h4⟩; have K4 : Hid (Keeps no w z4) := K3.out.trans h4.out.2.2.1; have D4 : Hid (Ld s l4 o4 n4 c4 z4) := h4.out.1; clear h4)
  refine hKq.out _ _ ?_ (fun hHeldN => ?_)
  · exact HSX.out _ K4.out
  clear hKq Kq hHeld
  have hHeld := hHeldN
  clear hHeldN
  refine wpAnyH_ready (rs := [21]) (by kernel_rfl) (by simp) ?_
  refine AllReadyH.cons (by simp only [List.getElem?_toArray, List.getElem?_cons_succ, List.getElem?_cons_zero]; rfl) (fun Kq hKq => ?_) AllReadyH.nil
  (go_simp; refine (rLasts_any z4 r oK nK cK oL nL cL ks ls (H.out.1.go K4.out).ro.rd).mono ?_; rintro e z5 ⟨o5, n5, c5, rfl, h5⟩; have K5 : Hid (Keeps no w z5) := K4.out.trans h5.out.2.2.2; have D5 : Hid (Ld s ls o5 n5 c5 z5 ∧ Ld s l4 o4 n4 c4 z5) := ⟨⟨h5.out.1, h5.out.2.1, H.out.1.rl.la, H.out.1.ow.ok, by have q1 := H.out.1.rl.len H.out.1.ow.ok; have q2 := H.out.1.nk; have q3 := H.out.2; omega⟩, D4.out.keepsN h5.out.2.2.2⟩; clear h5)
  refine hKq.out _ _ ?_ (fun hHeldN => ?_)
  · exact HSX.out _ K5.out
  clear hKq Kq hHeld
  have hHeld := hHeldN
  clear hHeldN
  refine wpAnyH_ready (rs := [22]) (by kernel_rfl) (by simp) ?_
  refine AllReadyH.cons (by simp only [List.getElem?_toArray, List.getElem?_cons_succ, List.getElem?_cons_zero]; rfl) (fun Kq hKq => ?_) AllReadyH.nil
  (go_simp; refine (sameLd (fun _ => rfl) D5.out.2 D5.out.1).mono ?_; rintro e z6 ⟨rfl, h6⟩; have K6 : Hid (Keeps no w z6) := K5.out.trans h6; clear h6)
  refine hKq.out _ _ ?_ (fun hHeldN => ?_)
  · exact HSX.out _ K6.out
  clear hKq Kq hHeld
  have hHeld := hHeldN
  clear hHeldN
  refine wpAnyH_take (i := 23) (v := ?_) (by simp only [List.getElem?_toArray, List.getElem?_cons_succ, List.getElem?_cons_zero]; rfl) (by kernel_rfl) (by kernel_rfl) (by kernel_rfl) (by exact fun _ _ _ h => h) (Or.inl ⟨by rfl, ?_⟩) (by assumption) ?_
  rotate_left
  · (intro _ hSw; (try dsimp only at hSw); go_simp; (try with_reducible rfl))
  try simp only [Act.put, List.setIfInBounds_toArray, List.set_cons_zero, List.set_cons_succ]
  refine wpAnyH_take (i := 24) (v := ?_) (by simp only [List.getElem?_toArray, List.getElem?_cons_succ, List.getElem?_cons_zero]; rfl) (by kernel_rfl) (by kernel_rfl) (by kernel_rfl) (by exact fun _ _ _ h => h) (Or.inl ⟨by rfl, ?_⟩) (by assumption) ?_
  rotate_left
  · (intro _ hSw; (try dsimp only at hSw); go_simp; (try with_reducible rfl))
  try simp only [Act.put, List.setIfInBounds_toArray, List.set_cons_zero, List.set_cons_succ]
  refine wpAnyH_done (by kernel_rfl) ?_ _
  clear hHeld
  go_wp2_with fail
  go_ret
  exact ⟨rfl, K6.out⟩
end Go.Proofs.YtkoaiibjahlnmabGreat
/- StorePlays: one call on both. -/
namespace Go.Proofs.YtkoaiibjahlnmabGreat
open Go.RowKit Go.Maps Go.Sort Orl
set_option linter.unusedVariables false
set_option linter.unusedSimpArgs false

def Sx (w0 : World) (X : Nat) (s : St) (N : Nat) (w : World) : Prop := ∃ p r P B oK nK cK oL nL cL ks ls, Sd w0 X p r P B oK nK cK oL nL cL ks ls s N w
theorem Sd.sx {w0 : World} {X p r : Nat} {P B : Nat → Prop} {oK : Option Addr} {nK cK : Nat} {oL : Option Addr} {nL cL : Nat} {ks : List KV} {ls : List Mk} {s : St} {N : Nat} {w : World} (h : Sd w0 X p r P B oK nK cK oL nL cL ks ls s N w) : Sx w0 X s N w := ⟨_, _, _, _, _, _, _, _, _, _, _, _, h⟩
section
variable {w0 : World} {X p r : Nat} {P B : Nat → Prop} {oK : Option Addr} {nK cK : Nat} {oL : Option Addr} {nL cL : Nat} {ks : List KV} {ls : List Mk} {s : St} {N : Nat} {w w' : World}
/-- what the call came with lies apart -/
theorem Sd.arg (h : Sd w0 X p r P B oK nK cK oL nL cL ks ls s N w) (ob : Obj) : ∃ P', Sd w0 X p r P' B oK nK cK oL nL cL ks ls s N (w.alloc ob) ∧ (w.alloc ob).heap[w.heap.size]? = some ob ∧ P' w.heap.size ∧ ¬ B w.heap.size := by
  have hk : Keeps no w (w.alloc ob) := (Keeps.refl no w).alloc _
  have hs : (w.alloc ob).heap.size = w.heap.size + 1 := by simp
  refine ⟨_, ⟨h.ow.grow hk, h.ro.keepsN hk, fun b hb => .inl (h.sub b hb), .inl h.px, h.bx, hk.at h.x id, h.rl, h.nk⟩, blk_new w ob, .inr ⟨Nat.le_refl _, by omega⟩, fun hb => ?_⟩
  have := h.ow.lt (h.sub _ hb)
  omega
theorem Sp.sd {s' : St} (h : Sp w0 X p r P B oK nK cK oL nL cL ks ls s' N w) (hr : Rl s' ks ls) (hn : ks.length ≤ N) : Sd w0 X p r P B oK nK cK oL nL cL ks ls s' N w := ⟨h.ow, h.ro, h.sub, h.px, h.bx, h.x, hr, hn⟩
theorem Sd.sp (h : Sd w0 X p r P B oK nK cK oL nL cL ks ls s N w) : Sp w0 X p r P B oK nK cK oL nL cL ks ls s N w := ⟨h.ow, h.ro, h.sub, h.px, h.bx, h.x⟩
/-- what came in is not the document's -/
theorem Sd.far (h : Sd w0 X p r P B oK nK cK oL nL cL ks ls s N w) {b : Nat} (hb : b < w0.heap.size) : ¬ B b := fun hc => by
  obtain ⟨T, _, hT⟩ := h.ow
  have := (hT b (h.sub b hc)).2.1
  omega
theorem Ow.byN (h : Ow w0 w p s N P) (k : Tx) (i : Nat) (hm : KM.ok (k, i)) (hv : s.V (k, i) = none) :
    Calls Tryz.prog 19 #[.pointer (some ⟨p, 0, none⟩), .string k, .int .u64 ((i : Nat) : Int)] w fun e w' => e = .returned (.tuple #[.agg #[.string ⟨#[]⟩, .int .u64 0, .string ⟨#[]⟩, .slice none 0 0], .int .i64 110]) ∧ Keeps no w w' := by
  obtain ⟨T, h, _⟩ := h
  exact byID_none w p T s N k i h.is hm hv
theorem Ow.byS (h : Ow w0 w p s N P) (k : Tx) (i : Nat) (v : Vr) (hv : s.V (k, i) = some v) :
    Calls Tryz.prog 19 #[.pointer (some ⟨p, 0, none⟩), .string k, .int .u64 ((i : Nat) : Int)] w fun e w' => ∃ u, e = .returned (.tuple #[u, .int .i64 0]) ∧ Tv w u (k, i) v w' := by
  obtain ⟨T, h, _⟩ := h
  exact byID_some w p T s N k i v h.is hv h.ok.v
theorem Ow.latN (h : Ow w0 w p s N P) (k : Tx) (hk : k.size ≤ 140737488351232) (hv : s.V (k, s.last k) = none) :
    Calls Tryz.prog 11 #[.pointer (some ⟨p, 0, none⟩), .string k] w fun e w' => e = .returned (.agg #[.string k, .int .u64 0, .string ⟨#[]⟩, .slice none 0 0]) ∧ Keeps no w w' := by
  obtain ⟨T, h, _⟩ := h
  exact latest_none w p T s N k h.is (by unfold maxLen; omega) (by omega) (h.ok.last_lt k) hv
theorem Ow.latS (h : Ow w0 w p s N P) (k : Tx) (v : Vr) (hv : s.V (k, s.last k) = some v) :
    Calls Tryz.prog 11 #[.pointer (some ⟨p, 0, none⟩), .string k] w fun e w' => ∃ u, e = .returned u ∧ Tv w u (k, s.last k) v w' := by
  obtain ⟨T, h, _⟩ := h
  exact latest_some w p T s N k v h.is hv h.ok.v
theorem Ow.lastA (h : Ow w0 w p s N P) (k : Tx) (hk : k.size ≤ 140737488351232) :
    Calls Tryz.prog 14 #[.pointer (some ⟨p, 0, none⟩), .string k] w fun e w' => e = .returned (.int .u64 ((s.last k : Nat) : Int)) ∧ w' = w := by
  obtain ⟨T, h, _⟩ := h
  exact last_any w p T s N k h.is (by unfold maxLen; omega)
end
set_option maxRecDepth 10000 in
set_option maxHeartbeats 1000000 in
theorem plays_else {w0 : World} {X p r : Nat} {P B : Nat → Prop} {oK : Option Addr} {nK cK : Nat} {oL : Option Addr} {nL cL : Nat} {ks : List KV} {ls : List Mk} {s : St} {N : Nat} {w : World} (h : Sd w0 X p r P B oK nK cK oL nL cL ks ls s N w) (hN : N ≤ 800000000) (i : Nat) (y : Tx) (ap : Option Addr) (np cp : Nat) (ak : Option Addr) (nk ck : Nat) (now : Int) (k : Int) (hk : k ≠ 1 ∧ k ≠ 2 ∧ k ≠ 3 ∧ k ≠ 4 ∧ k ≠ 5 ∧ k ≠ 6 ∧ k ≠ 8) :
    Calls Tryz.prog 7 #[.pointer (some ⟨X, 0, none⟩), .agg #[.int .i64 k, .int .u64 ((i : Nat) : Int), .string y, .slice ap np cp, .slice ak nk ck, .int .i64 now]] w fun e w' => e = .returned (.bool true) ∧ Hid (Sx w0 X s N w') := by
  obtain ⟨k1, k2, k3, k4, k5, k6, k8⟩ := hk
  have g1 : (k == 1) = false := by simpa using k1
  have g2 : (k == 2) = false := by simpa using k2
  have g3 : (k == 3) = false := by simpa using k3
  have g4 : (k == 4) = false := by simpa using k4
  have g5 : (k == 5) = false := by simpa using k5
  have g6 : (k == 6) = false := by simpa using k6
  have g8 : (k == 8) = false := by simpa using k8
  have hk0 : Keeps no w (w.alloc (.cells #[.int .i64 k, .int .u64 ((i : Nat) : Int), .string y, .slice ap np cp, .slice ak nk ck, .int .i64 now] 37)) := (Keeps.refl no w).alloc _
  have H : Hid (Sd w0 X p r P B oK nK cK oL nL cL ks ls s N (w.alloc (.cells #[.int .i64 k, .int .u64 ((i : Nat) : Int), .string y, .slice ap np cp, .slice ak nk ck, .int .i64 now] 37))) := h.go hk0
  have hall := all_any H.out (by omega)
  clear h k1 k2 k3 k4 k5 k6 k8 hk0
  go_enter Tryz.func7, Tryz.ntmps7
  go_wp2_with fail
  refine hall.mono ?_
  rintro e w2 ⟨rfl, hk2⟩
  go_wp2_with fail
  go_ret
  exact ⟨rfl, (H.out.go hk2).sx⟩
end Go.Proofs.YtkoaiibjahlnmabGreat
