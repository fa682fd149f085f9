/- What writers hold: any limit. -/
import Derived.Test.YtgamhblkgojapaaGreatDoorRc
namespace Go.Proofs.YtgamhblkgojapaaGreatDoor
open Go.RowKit Go.Sort Orl Pk
set_option linter.unusedVariables false
set_option linter.unusedSimpArgs false

theorem WStep.trans {t : Nat} {w w1 w2 : World} {a : Nat} {o o1 : Option Addr} {L : Nat} {st1 st2 : WS} (hF : Fresh w o o1) (hK : Keeps (footW a o) w w1) (h : WStep t w1 a o1 L st2 w2) : WStep t w a o L st2 w2 := by
  obtain ⟨o2, c2, hW, hF2, hK2⟩ := h
  refine ⟨o2, c2, hW, hF.trans hF2 hK.size, hK.then hK2 ?_⟩
  rintro i (rfl | hi)
  · exact .inl (.inl rfl)
  · rcases hF.in i hi with h | h
    · exact .inl (.inr h)
    · exact .inr h
theorem WStep.more {t : Nat} {w w1 w2 : World} {a : Nat} {o : Option Addr} {L : Nat} {st : WS} (h : WStep t w a o L st w1) (k : Keeps no w1 w2) : WStep t w a o L st w2 := by
  obtain ⟨o1, c1, hW, hF, hK⟩ := h
  exact ⟨o1, c1, hW.keeps k (fun _ _ h => h), hF, hK.trans k.of_no⟩
theorem WStep.start {t : Nat} {w : World} {a : Nat} {o : Option Addr} {c L : Nat} {bs : List Nat} {e : Nat} (h : IsW t w a o c L bs e) : WStep t w a o L (bs, e) w := ⟨o, c, h, .inl rfl, Keeps.refl _ _⟩
theorem WStep.keeps {t : Nat} {w w1 : World} {a : Nat} {o : Option Addr} {L : Nat} {st : WS} (h : WStep t w a o L st w1) : Keeps (footW a o) w w1 := by
  obtain ⟨o1, c1, hW, hF, hK⟩ := h; exact hK
theorem WStep.blk {t : Nat} {w w1 : World} {a : Nat} {o : Option Addr} {L : Nat} {st : WS} (h : WStep t w a o L st w1) {k : Nat} {x : Obj} (hk : w.heap[k]? = some x) (hn : ¬ footW a o k) : w1.heap[k]? = some x := h.keeps.at hk hn
theorem lay_le {L : Nat} {st : WS} (news : List Nat) (h : st.1.length ≤ L) : (lay L st news).1.length ≤ L := by
  unfold lay
  split
  · exact h
  · split
    · exact h
    · rw [List.length_append]; omega
theorem WStep.len {t : Nat} {w w1 : World} {a : Nat} {o : Option Addr} {L : Nat} {st : WS} (h : WStep t w a o L st w1) : st.1.length ≤ L := by
  obtain ⟨o1, c1, hW, hF, hK⟩ := h; exact hW.fit
/-- blocks that are no writer's stay -/
def Stay (w w' : World) : Prop := ∀ (g : Nat) (cs : Array Value) (t : TypeId) (fr : Nat × Nat), w.heap[g]? = some (Obj.cells cs t fr) → t ≠ 132 → t ≠ 5 → w'.heap[g]? = some (Obj.cells cs t fr)
theorem IsW.stay {w w' : World} {a : Nat} {o : Option Addr} {c L : Nat} {bs : List Nat} {e : Nat} (h : IsW 132 w a o c L bs e) (k : Keeps (footW a o) w w') : Stay w w' := by
  intro g cs t fr hg h1 h2
  refine k.at hg ?_
  rintro (rfl | hi)
  · rw [h.blk] at hg
    cases hg
    exact h1 rfl
  · rcases h.row.shape with ⟨rfl, _⟩ | ⟨g', cur, rfl, hg', _⟩
    · obtain ⟨x, e, _⟩ := hi; cases e
    · obtain ⟨x, e, hx⟩ := hi
      cases e
      simp only at hx
      subst hx
      rw [hg'] at hg
      cases hg
      exact h2 rfl
theorem Stay.trans {a b c : World} (h : Stay a b) (k : Stay b c) : Stay a c := fun g cs t fr hg h1 h2 => k g cs t fr (h g cs t fr hg h1 h2) h1 h2
theorem Stay.of_keeps {a b : World} (h : Keeps no a b) : Stay a b := fun g cs t fr hg _ _ => h.at hg (fun h => h)
theorem wsU8 {w w1 : World} {a : Nat} {o : Option Addr} {L : Nat} (hL : L ≤ 140737488355328) {st : WS} (h : WStep 132 w a o L st w1) (v : Nat) (hv : v < 256) :
    Calls Tryz.prog 80 #[.pointer (some ⟨a, 0, none⟩), .int .u8 (v : Nat)] w1 fun e w2 => e = .returned (.tuple #[]) ∧ WStep 132 w a o L (lay L st (num 1 v)) w2 ∧ Stay w1 w2 := by
  have hl := lay_le (num 1 v) h.len
  obtain ⟨o1, c1, hW, hF, hK⟩ := h
  refine (wU8_any w1 a o1 c1 L st.1 st.2 v hv hW (Nat.le_trans hl hL)).mono ?_
  rintro e w2 ⟨rfl, h2⟩
  exact ⟨rfl, WStep.trans (st1 := st) hF hK h2, hW.stay h2.keeps⟩
theorem wsU32 {w w1 : World} {a : Nat} {o : Option Addr} {L : Nat} (hL : L ≤ 140737488355328) {st : WS} (h : WStep 132 w a o L st w1) (v : Nat) (hv : v < 4294967296) :
    Calls Tryz.prog 82 #[.pointer (some ⟨a, 0, none⟩), .int .u32 (v : Nat)] w1 fun e w2 => e = .returned (.tuple #[]) ∧ WStep 132 w a o L (lay L st (num 4 v)) w2 ∧ Stay w1 w2 := by
  have hl := lay_le (num 4 v) h.len
  obtain ⟨o1, c1, hW, hF, hK⟩ := h
  refine (wU32_any w1 a o1 c1 L st.1 st.2 v hv hW (Nat.le_trans hl hL)).mono ?_
  rintro e w2 ⟨rfl, h2⟩
  exact ⟨rfl, WStep.trans (st1 := st) hF hK h2, hW.stay h2.keeps⟩
theorem wsU64 {w w1 : World} {a : Nat} {o : Option Addr} {L : Nat} (hL : L ≤ 140737488355328) {st : WS} (h : WStep 132 w a o L st w1) (v : Nat) (hv : v < 18446744073709551616) :
    Calls Tryz.prog 81 #[.pointer (some ⟨a, 0, none⟩), .int .u64 (v : Nat)] w1 fun e w2 => e = .returned (.tuple #[]) ∧ WStep 132 w a o L (lay L st (num 8 v)) w2 ∧ Stay w1 w2 := by
  have hl := lay_le (num 8 v) h.len
  obtain ⟨o1, c1, hW, hF, hK⟩ := h
  refine (wU64_any w1 a o1 c1 L st.1 st.2 v hv hW (Nat.le_trans hl hL)).mono ?_
  rintro e w2 ⟨rfl, h2⟩
  exact ⟨rfl, WStep.trans (st1 := st) hF hK h2, hW.stay h2.keeps⟩
theorem wsText {w w1 : World} {a : Nat} {o : Option Addr} {L : Nat} (hL : L ≤ 140737488355328) {st : WS} (h : WStep 132 w a o L st w1) (s : Tx) (hs : s.size ≤ 65535) :
    Calls Tryz.prog 83 #[.pointer (some ⟨a, 0, none⟩), .string s] w1 fun e w2 => e = .returned (.tuple #[]) ∧ WStep 132 w a o L (lay L st (txt (nats s))) w2 ∧ Stay w1 w2 := by
  have hl := lay_le (txt (nats s)) h.len
  obtain ⟨o1, c1, hW, hF, hK⟩ := h
  refine (wText_any w1 a o1 c1 L st.1 st.2 s (by omega) hW (Nat.le_trans hl hL)).mono ?_
  rintro e w2 ⟨rfl, h2⟩
  exact ⟨rfl, WStep.trans (st1 := st) hF hK h2, hW.stay h2.keeps⟩
theorem take_succ_getD {α : Type} (l : List α) (k : Nat) (d : α) (h : k < l.length) : l.take (k + 1) = l.take k ++ [l.getD k d] := by
  rw [List.take_succ_eq_append_getElem h]; simp [List.getD_eq_getElem?_getD, h]
def Txs (ss : List Tx) : Prop := ss.length ≤ 1024 ∧ ∀ s ∈ ss, s.size ≤ 65535
theorem bodyLen_le : ∀ (ss : List Tx), (∀ s ∈ ss, s.size ≤ 65535) → bodyLen (natss ss) ≤ ss.length * 65539
  | [], _ => by simp [natss, bodyLen]
  | s :: l, h => by
    have ih := bodyLen_le l (fun x hx => h x (List.mem_cons_of_mem _ hx))
    have h0 := h s List.mem_cons_self
    show 4 + (nats s).length + bodyLen (natss l) ≤ _
    rw [nats_length, List.length_cons, Nat.add_mul]; omega
theorem Txs.all {ss : List Tx} (h : Txs ss) : bodyLen (natss ss) ≤ 67111936 := by
  have h1 := bodyLen_le ss h.2
  have h2 : ss.length * 65539 ≤ 1024 * 65539 := Nat.mul_le_mul_right _ h.1
  omega
theorem rowS_of {w : World} {a : Option Addr} {c : Nat} {xs : List Tx} (h : Sl TE w a c xs) : RowS w a xs := by
  by_cases h0 : xs = []
  · exact .inl h0
  · have hl : 0 < xs.length := List.length_pos_iff.2 h0
    obtain ⟨b, off, e, _⟩ := h.at hl
    refine .inr ⟨b, off, e, fun j hj => ?_⟩
    obtain ⟨b2, off2, e2, hc⟩ := h.at hj
    rw [e] at e2; cases e2
    exact hc
theorem wsTexts {w w1 : World} {a : Nat} {o : Option Addr} {L : Nat} (hL : L ≤ 140737488355328) {st : WS} (h : WStep 132 w a o L st w1) (ol : Option Addr) (n c : Nat) (ss : List Tx) (hn : n = ss.length) (hs : Txs ss) (hne : ss ≠ []) (hsl : Sl TE w ol c ss) (hap : ∀ k, k < w.heap.size → inO ol k → ¬ footW a o k) :
    Calls Tryz.prog 84 #[.pointer (some ⟨a, 0, none⟩), .slice ol n c] w1 fun e w2 => e = .returned (.tuple #[]) ∧ WStep 132 w a o L (lay L st (txts (natss ss))) w2 ∧ Stay w1 w2 := by
  have hl := lay_le (txts (natss ss)) h.len
  obtain ⟨o1, c1, hW, hF, hK⟩ := h
  have hlt := hsl.lt okT hne
  have hsl1 : Sl TE w1 ol c ss := hsl.keeps hK (fun k hk => hap k (hlt k hk) hk)
  have hb := hs.all
  refine (wTexts_any w1 a o1 c1 L st.1 st.2 ol n c ss hn (rowS_of hsl1) (fun s hs' => by have := hs.2 s hs'; omega) (by have := hs.1; omega) ?_ (.inr (by omega)) hW (Nat.le_trans hl hL)).mono ?_
  · intro x hx
    have hin : inO ol x.block := ⟨x, hx, rfl⟩
    have hx0 := hlt _ hin
    refine ⟨?_, Nat.lt_of_lt_of_le hx0 hK.size⟩
    rintro (e | hi)
    · exact hap _ hx0 hin (.inl e)
    · rcases hF.in _ hi with h | h
      · exact hap _ hx0 hin (.inr h)
      · omega
  · rintro e w2 ⟨rfl, h2⟩
    exact ⟨rfl, WStep.trans (st1 := st) hF hK h2, hW.stay h2.keeps⟩
def lays (L : Nat) (st : WS) (l : List (List Nat)) : WS := l.foldl (lay L) st
theorem lays_snoc (L : Nat) (st : WS) (l : List (List Nat)) (x : List Nat) : lays L st (l ++ [x]) = lay L (lays L st l) x := by simp [lays]
theorem lays_app (L : Nat) (st : WS) (l k : List (List Nat)) : lays L st (l ++ k) = lays L (lays L st l) k := by simp [lays]
theorem lays_err (L : Nat) : ∀ (l : List (List Nat)) (bs : List Nat) (e : Nat), e ≠ 0 → lays L (bs, e) l = (bs, e)
  | [], bs, e, _ => rfl
  | x :: l, bs, e, he => by
    show lays L (lay L (bs, e) x) l = _
    rw [lay_err _ _ _ _ he]; exact lays_err L l bs e he
theorem lays_all (L : Nat) : ∀ (l : List (List Nat)) (bs : List Nat), bs.length + l.flatten.length ≤ L → lays L (bs, 0) l = (bs ++ l.flatten, 0)
  | [], bs, _ => by simp [lays]
  | x :: l, bs, h => by
    show lays L (lay L (bs, 0) x) l = _
    simp only [List.flatten_cons, List.length_append] at h
    rw [lay_fits _ _ _ (by omega), lays_all L l (bs ++ x) (by rw [List.length_append]; omega)]
    simp
theorem lays_long (L : Nat) : ∀ (l : List (List Nat)) (bs : List Nat), bs.length ≤ L → L < bs.length + l.flatten.length → (lays L (bs, 0) l).2 = 3
  | [], bs, h0, h => by simp at h; omega
  | x :: l, bs, h0, h => by
    show (lays L (lay L (bs, 0) x) l).2 = _
    simp only [List.flatten_cons, List.length_append] at h
    by_cases hx : L < bs.length + x.length
    · rw [lay_long _ _ _ hx, lays_err _ _ _ _ (by decide)]
    · rw [lay_fits _ _ _ (by omega)]
      exact lays_long L l (bs ++ x) (by rw [List.length_append]; omega) (by rw [List.length_append]; omega)
def chP (l : List Pr) : List (List Nat) := l.flatMap fun p => [txt (nats p.1), txt (nats p.2)]
theorem chP_flat (l : List Pr) : (chP l).flatten = layP l := by
  induction l with
  | nil => rfl
  | cons p l ih => unfold chP layP layP1 at *; simp [ih]
theorem chP_snoc (l : List Pr) (k : Nat) (hk : k < l.length) : chP (l.take (k + 1)) = chP (l.take k) ++ [txt (nats (l.getD k p0).1)] ++ [txt (nats (l.getD k p0).2)] := by
  rw [take_succ_getD l k p0 hk]; simp [chP]
set_option linter.unusedVariables false
set_option linter.unusedSimpArgs false

theorem Fresh.new {w0 w w' : World} {oa o' : Option Addr} (h : Fresh w oa o') (hk : Keeps (inO oa) w w') (hn : New w0 oa) (hk0 : Keeps no w0 w) : New w0 o' ∧ Keeps no w0 w' := by
  refine ⟨?_, hk0.then hk (fun i hi => .inr (hn i hi))⟩
  rcases h with rfl | ⟨g, rfl, hg⟩
  · exact hn
  · rintro k ⟨x, e, rfl⟩; cases e; exact Nat.le_trans hk0.size hg
theorem layP_lt (l : List Pr) : ∀ c ∈ layP l, c < 256 := by
  intro c hc
  unfold layP at hc
  obtain ⟨p, _, hp⟩ := List.mem_flatMap.1 hc
  exact app_lt (txt_lt _) (txt_lt _) c hp
theorem btxts_body_lt : ∀ (ss : List Tx), ∀ c ∈ txtsBody (natss ss), c < 256
  | [], c, hc => by simp [natss, txtsBody] at hc
  | s :: l, c, hc => by
    have hc' : c ∈ txt (nats s) ++ txtsBody (natss l) := hc
    exact app_lt (txt_lt s) (btxts_body_lt l) c hc'
theorem btxts_lt (ss : List Tx) : ∀ c ∈ txts (natss ss), c < 256 := app_lt (num_lt _ _) (btxts_body_lt ss)
theorem body_byt (r : Rec) : ∀ c ∈ body r, c < 256 := by
  refine app_lt (num_lt _ _) (app_lt (num_lt _ _) ?_)
  unfold layF
  split
  · exact app_lt (num_lt _ _) (app_lt (layP_lt _) (btxts_lt _))
  · intro c hc; cases hc
theorem sum_body (r : Rec) : Crc.sum (body r) < 4294967296 := Crc.update_lt 0 _ (by decide) (body_byt r)
theorem enc_byt (r : Rec) : ∀ c ∈ enc r, c < 256 := app_lt (num_lt _ _) (app_lt (num_lt _ _) (body_byt r))
end Go.Proofs.YtgamhblkgojapaaGreatDoor
