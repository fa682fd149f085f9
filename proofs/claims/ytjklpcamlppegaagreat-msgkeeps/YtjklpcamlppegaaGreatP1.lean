/- The program's Encode: what writers hold. -/
import Derived.Test.YtjklpcamlppegaaGreatN7
namespace Go.Proofs.YtjklpcamlppegaaGreat
open Go.RowKit Go.Sort Orl Pk
set_option linter.unusedVariables false
set_option linter.unusedSimpArgs false

/-- the greatest body -/
def Lm : Nat := 1048576
theorem WStep.trans {t : Nat} {w w1 w2 : World} {a : Nat} {o o1 : Option Addr} {L : Nat} {st1 st2 : WS} (hF : Fresh w o o1) (hK : Keeps (footW a o) w w1) (h : WStep t w1 a o1 L st2 w2) : WStep t w a o L st2 w2 := by
  obtain ⟨o2, c2, hW, hF2, hK2⟩ := h
  refine ⟨o2, c2, hW, hF.trans hF2 hK.size, hK.then hK2 ?_⟩
  rintro i (rfl | hi)
  · exact .inl (.inl rfl)
  · rcases hF.in i hi with h | h
    · exact .inl (.inr h)
    · exact .inr h
theorem WStep.more {t : Nat} {w w1 w2 : World} {a : Nat} {o : Option Addr} {L : Nat} {st : WS} (h : WStep t w a o L st w1) (k : Keeps no w1 w2) : WStep t w a o L st w2 := by
  obtain ⟨o1, c1, hW, hF, hK⟩ := h
  exact ⟨o1, c1, hW.keeps k (fun _ _ h => h), hF, hK.trans k.of_no⟩
theorem WStep.start {t : Nat} {w : World} {a : Nat} {o : Option Addr} {c L : Nat} {bs : List Nat} {e : Nat} (h : IsW t w a o c L bs e) : WStep t w a o L (bs, e) w := ⟨o, c, h, .inl rfl, Keeps.refl _ _⟩
theorem WStep.keeps {t : Nat} {w w1 : World} {a : Nat} {o : Option Addr} {L : Nat} {st : WS} (h : WStep t w a o L st w1) : Keeps (footW a o) w w1 := by
  obtain ⟨o1, c1, hW, hF, hK⟩ := h; exact hK
theorem WStep.blk {t : Nat} {w w1 : World} {a : Nat} {o : Option Addr} {L : Nat} {st : WS} (h : WStep t w a o L st w1) {k : Nat} {x : Obj} (hk : w.heap[k]? = some x) (hn : ¬ footW a o k) : w1.heap[k]? = some x := h.keeps.at hk hn

theorem lay_le {L : Nat} {st : WS} (news : List Nat) (h : st.1.length ≤ L) : (lay L st news).1.length ≤ L := by
  unfold lay
  split
  · exact h
  · split
    · exact h
    · rw [List.length_append]; omega
theorem WStep.len {t : Nat} {w w1 : World} {a : Nat} {o : Option Addr} {L : Nat} {st : WS} (h : WStep t w a o L st w1) : st.1.length ≤ L := by
  obtain ⟨o1, c1, hW, hF, hK⟩ := h; exact hW.fit

/-- blocks that are no writer's stay -/
def Stay (w w' : World) : Prop := ∀ (g : Nat) (cs : Array Value) (t : TypeId) (fr : Nat × Nat), w.heap[g]? = some (Obj.cells cs t fr) → t ≠ 84 → t ≠ 5 → w'.heap[g]? = some (Obj.cells cs t fr)
theorem IsW.stay {w w' : World} {a : Nat} {o : Option Addr} {c L : Nat} {bs : List Nat} {e : Nat} (h : IsW 84 w a o c L bs e) (k : Keeps (footW a o) w w') : Stay w w' := by
  intro g cs t fr hg h1 h2
  refine k.at hg ?_
  rintro (rfl | hi)
  · rw [h.blk] at hg
    cases hg
    exact h1 rfl
  · rcases h.row.shape with ⟨rfl, _⟩ | ⟨g', cur, rfl, hg', _⟩
    · obtain ⟨x, e, _⟩ := hi; cases e
    · obtain ⟨x, e, hx⟩ := hi
      cases e
      simp only at hx
      subst hx
      rw [hg'] at hg
      cases hg
      exact h2 rfl
theorem Stay.trans {a b c : World} (h : Stay a b) (k : Stay b c) : Stay a c := fun g cs t fr hg h1 h2 => k g cs t fr (h g cs t fr hg h1 h2) h1 h2
theorem Stay.of_keeps {a b : World} (h : Keeps no a b) : Stay a b := fun g cs t fr hg _ _ => h.at hg (fun h => h)

theorem wsU8 {w w1 : World} {a : Nat} {o : Option Addr} {st : WS} (h : WStep 84 w a o Lm st w1) (v : Nat) (hv : v < 256) :
    Calls Tryz.prog 52 #[.pointer (some ⟨a, 0, none⟩), .int .u8 (v : Nat)] w1 fun e w2 => e = .returned (.tuple #[]) ∧ WStep 84 w a o Lm (lay Lm st (num 1 v)) w2 ∧ Stay w1 w2 := by
  have hl := lay_le (num 1 v) h.len
  obtain ⟨o1, c1, hW, hF, hK⟩ := h
  refine (wU8_any w1 a o1 c1 Lm st.1 st.2 v hv hW (Nat.le_trans hl (by unfold Lm; omega))).mono ?_
  rintro e w2 ⟨rfl, h2⟩
  exact ⟨rfl, WStep.trans (st1 := st) hF hK h2, hW.stay h2.keeps⟩
theorem wsU32 {w w1 : World} {a : Nat} {o : Option Addr} {st : WS} (h : WStep 84 w a o Lm st w1) (v : Nat) (hv : v < 4294967296) :
    Calls Tryz.prog 93 #[.pointer (some ⟨a, 0, none⟩), .int .u32 (v : Nat)] w1 fun e w2 => e = .returned (.tuple #[]) ∧ WStep 84 w a o Lm (lay Lm st (num 4 v)) w2 ∧ Stay w1 w2 := by
  have hl := lay_le (num 4 v) h.len
  obtain ⟨o1, c1, hW, hF, hK⟩ := h
  refine (wU32_any w1 a o1 c1 Lm st.1 st.2 v hv hW (Nat.le_trans hl (by unfold Lm; omega))).mono ?_
  rintro e w2 ⟨rfl, h2⟩
  exact ⟨rfl, WStep.trans (st1 := st) hF hK h2, hW.stay h2.keeps⟩
theorem wsU64 {w w1 : World} {a : Nat} {o : Option Addr} {st : WS} (h : WStep 84 w a o Lm st w1) (v : Nat) (hv : v < 18446744073709551616) :
    Calls Tryz.prog 53 #[.pointer (some ⟨a, 0, none⟩), .int .u64 (v : Nat)] w1 fun e w2 => e = .returned (.tuple #[]) ∧ WStep 84 w a o Lm (lay Lm st (num 8 v)) w2 ∧ Stay w1 w2 := by
  have hl := lay_le (num 8 v) h.len
  obtain ⟨o1, c1, hW, hF, hK⟩ := h
  refine (wU64_any w1 a o1 c1 Lm st.1 st.2 v hv hW (Nat.le_trans hl (by unfold Lm; omega))).mono ?_
  rintro e w2 ⟨rfl, h2⟩
  exact ⟨rfl, WStep.trans (st1 := st) hF hK h2, hW.stay h2.keeps⟩
theorem wsText {w w1 : World} {a : Nat} {o : Option Addr} {st : WS} (h : WStep 84 w a o Lm st w1) (s : Tx) (hs : s.size ≤ 65535) :
    Calls Tryz.prog 94 #[.pointer (some ⟨a, 0, none⟩), .string s] w1 fun e w2 => e = .returned (.tuple #[]) ∧ WStep 84 w a o Lm (lay Lm st (txt (nats s))) w2 ∧ Stay w1 w2 := by
  have hl := lay_le (txt (nats s)) h.len
  obtain ⟨o1, c1, hW, hF, hK⟩ := h
  refine (wText_any w1 a o1 c1 Lm st.1 st.2 s (by omega) hW (Nat.le_trans hl (by unfold Lm; omega))).mono ?_
  rintro e w2 ⟨rfl, h2⟩
  exact ⟨rfl, WStep.trans (st1 := st) hF hK h2, hW.stay h2.keeps⟩
theorem rowS_of {w : World} {a : Option Addr} {c : Nat} {xs : List Tx} (h : Sl TE w a c xs) : RowS w a xs := by
  by_cases h0 : xs = []
  · exact .inl h0
  · have hl : 0 < xs.length := List.length_pos_iff.2 h0
    obtain ⟨b, off, e, _⟩ := h.at hl
    refine .inr ⟨b, off, e, fun j hj => ?_⟩
    obtain ⟨b2, off2, e2, hc⟩ := h.at hj
    rw [e] at e2; cases e2
    exact hc
theorem wsTexts {w w1 : World} {a : Nat} {o : Option Addr} {st : WS} (h : WStep 84 w a o Lm st w1) (ol : Option Addr) (n c : Nat) (ss : List Tx) (hn : n = ss.length) (hs : Txs ss) (hne : ss ≠ []) (hsl : Sl TE w ol c ss) (hap : ∀ k, k < w.heap.size → inO ol k → ¬ footW a o k) :
    Calls Tryz.prog 54 #[.pointer (some ⟨a, 0, none⟩), .slice ol n c] w1 fun e w2 => e = .returned (.tuple #[]) ∧ WStep 84 w a o Lm (lay Lm st (txts (natss ss))) w2 ∧ Stay w1 w2 := by
  have hl := lay_le (txts (natss ss)) h.len
  obtain ⟨o1, c1, hW, hF, hK⟩ := h
  have hlt := hsl.lt okT hne
  have hsl1 : Sl TE w1 ol c ss := hsl.keeps hK (fun k hk => hap k (hlt k hk) hk)
  have hb := hs.all
  refine (wTexts_any w1 a o1 c1 Lm st.1 st.2 ol n c ss hn (rowS_of hsl1) (fun s hs' => by have := hs.2 s hs'; omega) (by have := hs.1; omega) ?_ (.inr (by unfold Lm; omega)) hW (Nat.le_trans hl (by unfold Lm; omega))).mono ?_
  · intro x hx
    have hin : inO ol x.block := ⟨x, hx, rfl⟩
    have hx0 := hlt _ hin
    refine ⟨?_, Nat.lt_of_lt_of_le hx0 hK.size⟩
    rintro (e | hi)
    · exact hap _ hx0 hin (.inl e)
    · rcases hF.in _ hi with h | h
      · exact hap _ hx0 hin (.inr h)
      · omega
  · rintro e w2 ⟨rfl, h2⟩
    exact ⟨rfl, WStep.trans (st1 := st) hF hK h2, hW.stay h2.keeps⟩

/-! ### pieces laid one behind the other -/
def lays (st : WS) (l : List (List Nat)) : WS := l.foldl (lay Lm) st
theorem lays_snoc (st : WS) (l : List (List Nat)) (x : List Nat) : lays st (l ++ [x]) = lay Lm (lays st l) x := by simp [lays]
theorem lays_app (st : WS) (l k : List (List Nat)) : lays st (l ++ k) = lays (lays st l) k := by simp [lays]
theorem lays_err : ∀ (l : List (List Nat)) (bs : List Nat) (e : Nat), e ≠ 0 → lays (bs, e) l = (bs, e)
  | [], bs, e, _ => rfl
  | x :: l, bs, e, he => by
    show lays (lay Lm (bs, e) x) l = _
    rw [lay_err _ _ _ _ he]; exact lays_err l bs e he
theorem lays_all : ∀ (l : List (List Nat)) (bs : List Nat), bs.length + l.flatten.length ≤ Lm → lays (bs, 0) l = (bs ++ l.flatten, 0)
  | [], bs, _ => by simp [lays]
  | x :: l, bs, h => by
    show lays (lay Lm (bs, 0) x) l = _
    simp only [List.flatten_cons, List.length_append] at h
    rw [lay_fits _ _ _ (by omega), lays_all l (bs ++ x) (by rw [List.length_append]; omega)]
    simp
theorem lays_long : ∀ (l : List (List Nat)) (bs : List Nat), bs.length ≤ Lm → Lm < bs.length + l.flatten.length → (lays (bs, 0) l).2 = 3
  | [], bs, h0, h => by simp at h; omega
  | x :: l, bs, h0, h => by
    show (lays (lay Lm (bs, 0) x) l).2 = _
    simp only [List.flatten_cons, List.length_append] at h
    by_cases hx : Lm < bs.length + x.length
    · rw [lay_long _ _ _ hx, lays_err _ _ _ (by decide)]
    · rw [lay_fits _ _ _ (by omega)]
      exact lays_long l (bs ++ x) (by rw [List.length_append]; omega) (by rw [List.length_append]; omega)

def chP (l : List Pr) : List (List Nat) := l.flatMap fun p => [txt (nats p.1), txt (nats p.2)]
def chW (l : List Wn) : List (List Nat) := l.flatMap fun p => [txt (nats p.1), num 8 p.2]
theorem chP_flat (l : List Pr) : (chP l).flatten = layP l := by
  induction l with
  | nil => rfl
  | cons p l ih => unfold chP layP layP1 at *; simp [ih]
theorem chW_flat (l : List Wn) : (chW l).flatten = layW l := by
  induction l with
  | nil => rfl
  | cons p l ih => unfold chW layW layW1 at *; simp [ih]
theorem chP_snoc (l : List Pr) (k : Nat) (hk : k < l.length) : chP (l.take (k + 1)) = chP (l.take k) ++ [txt (nats (l.getD k p0).1)] ++ [txt (nats (l.getD k p0).2)] := by
  rw [take_succ_getD l k p0 hk]; simp [chP]
theorem chW_snoc (l : List Wn) (k : Nat) (hk : k < l.length) : chW (l.take (k + 1)) = chW (l.take k) ++ [txt (nats (l.getD k w0').1)] ++ [num 8 (l.getD k w0').2] := by
  rw [take_succ_getD l k w0' hk]; simp [chW]

set_option maxRecDepth 10000 in
theorem layPairs_any (w : World) (a : Nat) (o : Option Addr) (st : WS) (w1 : World) (h : WStep 84 w a o Lm st w1) (ol : Option Addr) (n c : Nat) (xs : List Pr) (hn : n = xs.length) (h1024 : xs.length ≤ 1024) (hs : ∀ p ∈ xs, p.1.size ≤ 65535 ∧ p.2.size ≤ 65535) (hsl : Sl PE w ol c xs) (hap : ∀ k, k < w.heap.size → inO ol k → ¬ footW a o k) :
    Calls Tryz.prog 55 #[.pointer (some ⟨a, 0, none⟩), .slice ol n c] w1 fun e w2 => e = .returned (.tuple #[]) ∧ WStep 84 w a o Lm (lays st (num 4 n :: chP xs)) w2 ∧ Stay w1 w2 := by
  have HN : Hid (n = xs.length) := hn
  have hn2 : n ≤ 1024 := by omega
  have hconv : ((n : Int) % 4294967296) = (n : Int) := by omega
  clear hn
  go_enter Tryz.func55, Tryz.ntmps55
  go_wp2_with fail
  try rw [hconv]
  refine (wsU32 h n (by omega)).mono ?_
  rintro e w2 ⟨rfl, h2, hst2⟩
  have H2 : Hid (WStep 84 w a o Lm (lay Lm st (num 4 n)) w2) := h2
  go_wp2_with fail
  go_loopw [13] (fun i wr => ∃ k : Nat, k ≤ n ∧ i = .int .i64 k ∧ Hid (WStep 84 w a o Lm (lays st (num 4 n :: chP (xs.take k))) wr) ∧ Stay w1 wr) (fun i _ => n - (intOf i).toNat)
  case atStart => exact ⟨0, by omega, rfl, H2, hst2⟩
  case round =>
    obtain ⟨k, hk, rfl, HW, HST⟩ := hrel
    by_cases h2 : k < n
    · have hks : k < xs.length := by have := HN.out; omega
      have hlt := hsl.lt okP (fun e => by rw [e] at hks; simp at hks)
      obtain ⟨b, off, rfl, c1, c2⟩ := (hsl.keeps HW.out.keeps (fun k hk => hap k (hlt k hk) hk)).atP hks
      have hsz := hs _ (getD_mem_lt p0 hks)
      have HS : Hid (chP (xs.take (k + 1)) = chP (xs.take k) ++ [txt (nats (xs.getD k p0).1)] ++ [txt (nats (xs.getD k p0).2)]) := chP_snoc xs k hks
      generalize xs.getD k p0 = s at c1 c2 hsz HS
      obtain ⟨s1, s2⟩ := s
      simp only at c1 c2 hsz HS
      go_wp2_with fail
      refine (wsText (HW.out.more ((Keeps.refl no _).alloc _)) s1 hsz.1).mono ?_
      rintro e w3 ⟨rfl, h3, hst3⟩
      have hb : w3.heap[wr.heap.size]? = some (.cells #[.string s1, .string s2] 51 (0, 0)) := hst3 _ _ _ _ (blk_new wr _) (by decide) (by decide)
      have d1 : w3.cell? ⟨wr.heap.size, 1, none⟩ = some (.string s2) := cell_of_blk hb 1
      go_wp2_with fail
      refine (wsText h3 s2 hsz.2).mono ?_
      rintro e w4 ⟨rfl, h4, hst4⟩
      go_wp2_with fail
      go_roundw
      case rel =>
        refine ⟨k + 1, by omega, by go_num, ?_, ((HST.trans (Stay.of_keeps ((Keeps.refl no _).alloc _))).trans hst3).trans hst4⟩
        show WStep _ _ _ _ _ _ _
        rw [HS.out, show num 4 n :: (chP (xs.take k) ++ [txt (nats s1)] ++ [txt (nats s2)]) = (num 4 n :: chP (xs.take k)) ++ [txt (nats s1)] ++ [txt (nats s2)] by simp, lays_snoc, lays_snoc]
        exact h4
      case measure => simp [intOf]; omega
    · have hkn : k = n := by omega
      go_wp2_with fail
      go_end0
      have e1 := HW.out
      rw [hkn, HN.out, List.take_length] at e1
      refine ⟨rfl, ?_, HST⟩
      rw [HN.out]; exact e1
end Go.Proofs.YtjklpcamlppegaaGreat
