import Derived.Test.YtgamhblkgojapaaGreatDoorRows
import Derived.Test.YtgamhblkgojapaaGreatDoorKin
import Derived.Test.YtgamhblkgojapaaGreatDoorSpec
import Derived.WalkKit
import Derived.Lib.Walk
import Derived.Lib.AppendStr
import Derived.Maps.AppendAt
import Derived.Laws.AppendOwnNone
import Derived.Laws.BytesString
import Derived.Deep.QuietTactic
import Derived.BigQuiet
import Derived.Deep.RegionWith
import Derived.Deep.DeepMust
import Derived.Lib.SliceRun
import Derived.Deep.Cut
import Derived.Deep.CutRange
import Derived.RegionTactic
namespace Go.Proofs.YtgamhblkgojapaaGreatDoor
open Go.RowKit
open Pk
set_option linter.unusedVariables false
set_option linter.unusedSimpArgs false

theorem info5 : (Tryz.prog.info? 5).map (fun i => (i.zero, i.size, i.bytes)) = some (some (.int .u8 0), 1, 1) := by kernel_rfl
def vals (bs : List Nat) : List Value := bs.map fun c => Value.int .u8 (c : Nat)
theorem vals_length (bs : List Nat) : (vals bs).length = bs.length := by simp [vals]
theorem vals_append (a b : List Nat) : vals (a ++ b) = vals a ++ vals b := by simp [vals]

/-- a slice of bytes that the call itself made: these bytes -/
def Owns (w : World) (o : Option Addr) (c : Nat) (bs : List Nat) : Prop := w.ownsRow 0 5 1 (.slice o bs.length c) bs.length (vals bs)
def Fresh (w : World) (o o' : Option Addr) : Prop := o' = o ∨ ∃ g, o' = some ⟨g, 0, none⟩ ∧ w.heap.size ≤ g

/-- what a slice's address shows: these bytes -/
def BRow (w : World) (a : Option Addr) (bs : List Nat) : Prop :=
  (∀ c ∈ bs, c < 256) ∧ bs.length ≤ 9223372036854775807 ∧ (bs = [] ∨ ∃ b off, a = some ⟨b, off, none⟩ ∧ ∀ j, j < bs.length → w.cell? ⟨b, off + j, none⟩ = some (.int .u8 (bs.getD j 0 : Nat)))

theorem BRow.keeps {S : Nat → Prop} {w w' : World} {a : Option Addr} {bs : List Nat} (h : BRow w a bs) (hk : Keeps S w w') (ha : ∀ x, a = some x → ¬ S x.block) : BRow w' a bs := by
  obtain ⟨h1, h2, h3⟩ := h
  refine ⟨h1, h2, ?_⟩
  rcases h3 with h | ⟨b, off, rfl, hc⟩
  · exact .inl h
  · exact .inr ⟨b, off, rfl, fun j hj => hk.cell (hc j hj) (by have := ha ⟨b, off, none⟩ rfl; exact this)⟩
theorem BRow.take {w : World} {a : Option Addr} {bs : List Nat} (h : BRow w a bs) (n : Nat) : BRow w a (bs.take n) := by
  obtain ⟨h1, h2, h3⟩ := h
  refine ⟨fun c hc => h1 c (List.mem_of_mem_take hc), by rw [List.length_take]; omega, ?_⟩
  rcases h3 with h | ⟨b, off, rfl, hc⟩
  · exact .inl (by rw [h]; simp)
  · refine .inr ⟨b, off, rfl, fun j hj => ?_⟩
    have hj1 : j < n ∧ j < bs.length := by rw [List.length_take] at hj; omega
    have := hc j hj1.2
    simp only [List.getD_eq_getElem?_getD] at this ⊢
    rw [List.getElem?_take_of_lt hj1.1]
    exact this
theorem BRow.drop {w : World} {a a' : Option Addr} {bs : List Nat} (h : BRow w a bs) (n : Nat) (hadr : n < bs.length → ∀ b off, a = some ⟨b, off, none⟩ → a' = some ⟨b, off + n, none⟩) : BRow w a' (bs.drop n) := by
  obtain ⟨h1, h2, h3⟩ := h
  refine ⟨fun c hc => h1 c (List.mem_of_mem_drop hc), by rw [List.length_drop]; omega, ?_⟩
  by_cases hn : n < bs.length
  · rcases h3 with h | ⟨b, off, rfl, hc⟩
    · rw [h] at hn; simp at hn
    · refine .inr ⟨b, off + n, hadr hn b off rfl, fun j hj => ?_⟩
      have hj1 : n + j < bs.length := by rw [List.length_drop] at hj; omega
      have := hc (n + j) hj1
      rw [← Nat.add_assoc] at this
      simp only [List.getD_eq_getElem?_getD] at this ⊢
      rw [List.getElem?_drop]
      exact this
  · exact .inl (List.drop_eq_nil_of_le (by omega))
theorem BRow.news {w : World} {ad : Addr} {bs : List Nat} (h : BRow w (some ad) bs) : ∀ j u, (vals bs)[j]? = some u → w.cell? (ad.add j) = some u := by
  intro j u hj
  have hjl : j < bs.length := by
    have := (List.getElem?_eq_some_iff.mp hj).1
    simpa [vals] using this
  obtain ⟨_, _, h⟩ := h
  rcases h with h | ⟨b, off, h, hc⟩
  · rw [h] at hjl; simp at hjl
  · cases h
    have := hc j hjl
    rw [← addr_add] at this
    have e : u = .int .u8 (bs.getD j 0 : Nat) := by
      simp [vals, hjl] at hj
      simp [hjl, hj]
    rw [e]
    exact this
theorem row_of_owns {w : World} {base : Nat} {g n c : Nat} {a : Option Addr} {bs : List Nat} (h : w.ownsRow base 5 1 (.slice a n c) n (vals bs)) (hby : ∀ c ∈ bs, c < 256) (hl : bs.length ≤ 9223372036854775807) : BRow w a bs := by
  have hn : bs.length = n := by have := h.1; simpa [vals] using this
  refine ⟨hby, hl, ?_⟩
  rcases h.2 with ⟨e, h0⟩ | ⟨g', cap', cur, e, _, _⟩
  · exact .inl (List.length_eq_zero_iff.mp (by omega))
  · cases e
    refine .inr ⟨g', 0, rfl, fun j hj => ?_⟩
    rw [Nat.zero_add, World.ownsRow.cellAt h j (by omega)]
    simp [vals, hj]
theorem vals_one {bs : List Nat} : ∀ u ∈ vals bs, u.oneCell' = true := by
  intro u hu; simp [vals] at hu; obtain ⟨c, _, rfl⟩ := hu; rfl

theorem Owns.keeps {S : Nat → Prop} {w w' : World} {o : Option Addr} {c : Nat} {bs : List Nat} (h : Owns w o c bs) (hk : Keeps S w w') (hv : ∀ k, inO o k → ¬ S k) : Owns w' o c bs :=
  ownsRow_keeps h hk (fun k hh => hv k (by cases o with | none => cases hh | some x => exact ⟨x, rfl, by simpa [Value.ownBlock] using hh⟩))
theorem Owns.row {w : World} {o : Option Addr} {c : Nat} {bs : List Nat} (h : Owns w o c bs) (hby : ∀ c ∈ bs, c < 256) (hl : bs.length ≤ 9223372036854775807) : BRow w o bs := row_of_owns (g := 0) h hby hl
theorem Owns.lt {w : World} {o : Option Addr} {c : Nat} {bs : List Nat} (h : Owns w o c bs) : ∀ k, inO o k → k < w.heap.size := by
  rintro k ⟨x, rfl, rfl⟩
  exact (World.ownsRow.lt h x.block rfl).2
theorem Owns.shape {w : World} {o : Option Addr} {c : Nat} {bs : List Nat} (h : Owns w o c bs) : (o = none ∧ c = 0 ∧ bs = []) ∨ ∃ g cur, o = some ⟨g, 0, none⟩ ∧ w.heap[g]? = some (.cells cur 5 (0, 0)) ∧ bs.length ≤ c ∧ c ≤ maxLen ∧ cur.size = c ∧ cur.toList.take bs.length = vals bs := by
  rcases h.2 with ⟨e, h0⟩ | ⟨g, cap, cur, e, _, h1, h2, h3, h4, h5⟩
  · injection e with e1 e2 e3
    exact .inl ⟨e1, e3, List.length_eq_zero_iff.mp h0⟩
  · injection e with e1 e2 e3
    subst e3
    exact .inr ⟨g, cur, e1, h1, h2, h3, by simpa using h4, by simpa using h5⟩
theorem Owns.cap {w : World} {o : Option Addr} {c : Nat} {bs : List Nat} (h : Owns w o c bs) : bs.length ≤ c ∧ (o = none → c = 0) := by
  rcases h.shape with ⟨e, h0, h1⟩ | ⟨g, cur, e, _, h1, _⟩
  · subst h1; exact ⟨by simp, fun _ => h0⟩
  · exact ⟨h1, fun h => by rw [e] at h; cases h⟩
theorem owns_nil (w : World) : Owns w none 0 [] := World.ownsRow_nil w 0 5 1
theorem Owns.alloc {w : World} {o : Option Addr} {c : Nat} {bs : List Nat} (h : Owns w o c bs) (x : Obj) : Owns (w.alloc x) o c bs := World.ownsRow.alloc h x
theorem owns_inj {w w' : World} {o o' : Option Addr} {c c' : Nat} {bs bs' : List Nat} (h : Owns w o c bs) (h' : Owns w' o' c' bs') (e : Value.ownBlock (.slice o' bs'.length c') = Value.ownBlock (.slice o bs.length c)) : o' = o := by
  rcases h.shape with ⟨rfl, _⟩ | ⟨g, cur, rfl, _⟩ <;> rcases h'.shape with ⟨rfl, _⟩ | ⟨g', cur', rfl, _⟩
  · rfl
  · cases e
  · cases e
  · simp [Value.ownBlock] at e; rw [e]
theorem owns_val {w : World} {v : Value} {n : Nat} {bs : List Nat} (h : w.ownsRow 0 5 1 v n (vals bs)) : ∃ o c, v = .slice o n c ∧ n = bs.length ∧ Owns w o c bs := by
  have hn : n = bs.length := by have := h.1; simp [vals] at this; omega
  rcases h.2 with ⟨e, h0⟩ | ⟨g, cap, cur, e, _⟩
  · refine ⟨none, 0, by rw [e, h0], hn, ?_⟩
    unfold Owns
    rw [← hn, h0]
    rw [e, h0] at h
    exact h
  · refine ⟨_, _, e, hn, ?_⟩
    unfold Owns
    rw [← hn, ← e]
    exact h
theorem owns_new (w : World) : Owns (w.alloc (.cells #[] 5)) (some ⟨w.heap.size, 0, none⟩) 0 [] := by
  refine ⟨by simp [vals], .inr ⟨w.heap.size, 0, #[], rfl, Nat.zero_le _, blk_new w _, Nat.le_refl _, by unfold maxLen; omega, by simp, by simp [vals]⟩⟩
/-- append(s, x...) of bytes onto a slice of the call's own -/
theorem wpList_appB {w : World} {ops : Array Oper} {rest : List Oper} {o : Oper} {a : Act} {Q : Exit → Act → World → Prop} (hgd : o.guard = none) (s x : Operand)
    (ho : o.op = .call { callee := .builtin .append, args := #[s, x], argTypes := #[42, 42] })
    (oa : Option Addr) (n c : Nat) (bs : List Nat) (hs : a.eval s = .slice oa n c) (hn : n = bs.length) (hown : Owns w oa c bs)
    (ox : Option Addr) (m d : Nat) (news : List Nat) (hx : a.eval x = .slice ox m d) (hm : m = news.length) (hd : ox = none → d = 0) (hrow : BRow w ox news)
    (hb : n + m ≤ 140737488355328)
    (h : ∀ o' c' w', Owns w' o' c' (bs ++ news) → Fresh w oa o' → Keeps (inO oa) w w' → wpList Tryz.prog ops Q rest (a.put o.dst (.slice o' (n + m) c')) w') : wpList Tryz.prog ops Q (o :: rest) a w := by
  obtain ⟨i0, hi, hz0, hz1, hz2⟩ := info_parts info5
  subst hn hm
  match ox with
  | none =>
    obtain rfl : news = [] := by rcases hrow.2.2 with h | ⟨b, off, h, _⟩; exact h; cases h
    obtain rfl : d = 0 := hd rfl
    refine wpList_append_own_none hgd s x 42 ho 0 5 i0 1 Tryz.underlying42 hi _ _ _ hs hown hx ?_
    exact h oa c w (by simpa using hown) (.inl rfl) (Keeps.refl _ _)
  | some ad =>
    refine wpList_append_own_at _ hgd s x 42 ho 0 5 i0 (.int .u8 0) 1 1 Tryz.underlying42 hi hz0 hz1 hz2 rfl (by decide) _ bs.length (vals bs) hs hown ad _ _ (vals news) hx (by simp [vals]) hrow.news vals_one (by unfold maxLen; omega) (by omega) (Nat.zero_le _) ?_
    intro v' w' hown' hg _ hat
    rw [← vals_append] at hown'
    obtain ⟨o', c', rfl, hlen, hown''⟩ := owns_val hown'
    refine h o' c' w' hown'' ?_ ((Keeps.refl _ _).grown hg (fun k hk => .inl ((own_blk _ _ _ _).1 hk)))
    rcases hat with hat | hat
    · rw [hlen] at hat
      exact .inl (owns_inj hown hown'' hat)
    · obtain ⟨y, rfl, hy⟩ := (own_blk _ _ _ _).1 hat
      rcases hown''.shape with ⟨e, _⟩ | ⟨g, cur, e, _⟩
      · cases e
      · cases e; exact .inr ⟨g, rfl, Nat.le_of_eq hy.symm⟩

def nats (s : ByteArray) : List Nat := s.data.toList.map UInt8.toNat
theorem nats_length (s : ByteArray) : (nats s).length = s.size := by unfold nats; rw [List.length_map]; rfl
theorem nats_lt (s : ByteArray) : ∀ c ∈ nats s, c < 256 := by
  intro c hc; simp [nats] at hc; obtain ⟨b, _, rfl⟩ := hc; exact b.toNat_lt
theorem strCells_nats (s : ByteArray) : Lib.strCells s = vals (nats s) := by unfold Lib.strCells vals nats; rw [List.map_map]; rfl

theorem wpList_appS {w : World} {ops : Array Oper} {rest : List Oper} {o : Oper} {a : Act} {Q : Exit → Act → World → Prop} (hgd : o.guard = none) (s x : Operand)
    (ho : o.op = .call { callee := .builtin .append, args := #[s, x], argTypes := #[42, 9] })
    (oa : Option Addr) (n c : Nat) (bs : List Nat) (hs : a.eval s = .slice oa n c) (hn : n = bs.length) (hown : Owns w oa c bs)
    (str : ByteArray) (hx : a.eval x = .string str) (hb : n + str.size ≤ 140737488355328)
    (h : ∀ o' c' w', Owns w' o' c' (bs ++ nats str) → Fresh w oa o' → Keeps (inO oa) w w' → wpList Tryz.prog ops Q rest (a.put o.dst (.slice o' (n + str.size) c')) w') : wpList Tryz.prog ops Q (o :: rest) a w := by
  obtain ⟨i0, hi, hz0, hz1, hz2⟩ := info_parts info5
  subst hn
  have key : ∃ o' c' w', (Builtin.append_ #[42, 9] o.type #[.slice oa bs.length c, .string str]).run Tryz.prog w = .ok (.slice o' (bs.length + str.size) c') w' ∧ Owns w' o' c' (bs ++ nats str) ∧ Fresh w oa o' ∧ Keeps (inO oa) w w' := by
    have hmx : bs.length + str.size ≤ maxLen := by unfold maxLen; omega
    match oa with
    | none =>
      obtain ⟨h0, rfl⟩ : bs = [] ∧ c = 0 := by
        rcases hown.shape with ⟨e, h0, h1⟩ | ⟨g, cur, e, _⟩
        · exact ⟨h1, h0⟩
        · cases e
      subst h0
      obtain ⟨v', w', hr, h2, h3, h4⟩ := Lib.run_append_own_string (P := Tryz.prog) w w.heap.size 42 9 o.type 5 i0 Tryz.underlying42 Tryz.underlying9 hi hz0 hz1 hz2 (.slice none 0 0) 0 [] (World.ownsRow_nil w _ 5 1) str (by simpa using hmx) (by simpa using hb) (Nat.le_refl _)
      rw [strCells_nats, List.nil_append] at h2
      have hfr : ∀ o' c' n', v' = .slice o' n' c' → o' = none ∨ ∃ g, o' = some ⟨g, 0, none⟩ ∧ w.heap.size ≤ g := by
        intro o' c' n' hv
        rcases h2.2 with ⟨e, _⟩ | ⟨g, cap, cur, e, hb, _⟩
        · rw [hv] at e; injection e with e1 _ _; exact .inl e1
        · rw [hv] at e; injection e with e1 _ _; exact .inr ⟨g, e1, hb⟩
      have h2' : w'.ownsRow 0 5 1 v' (0 + str.size) (vals (nats str)) := by
        refine ⟨h2.1, ?_⟩
        rcases h2.2 with h | ⟨g, cap, cur, e, hb, hr⟩
        · exact .inl h
        · exact .inr ⟨g, cap, cur, e, Nat.zero_le _, hr⟩
      obtain ⟨o', c', rfl, hlen, hown''⟩ := owns_val h2'
      refine ⟨o', c', w', hr, by simpa using hown'', ?_, (Keeps.refl _ _).grown h3 (fun k hk => by cases hk)⟩
      rcases hfr _ _ _ rfl with e | ⟨g, e, hg⟩
      · exact .inl e
      · exact .inr ⟨g, e, hg⟩
    | some ad =>
      obtain ⟨v', w', hr, h2, h3, h4⟩ := Lib.run_append_own_string (P := Tryz.prog) w 0 42 9 o.type 5 i0 Tryz.underlying42 Tryz.underlying9 hi hz0 hz1 hz2 _ _ _ hown str hmx hb (Nat.zero_le _)
      rw [strCells_nats, ← vals_append] at h2
      obtain ⟨o', c', rfl, hlen, hown''⟩ := owns_val h2
      refine ⟨o', c', w', hr, hown'', ?_, (Keeps.refl _ _).grown h3 (fun k hk => .inl ((own_blk _ _ _ _).1 hk))⟩
      rcases hown.shape with ⟨e, _⟩ | ⟨g, cur, e, hg, hnc, hcm, hcs, htake⟩
      · cases e
      · cases e
        by_cases hroom : bs.length + str.size ≤ c
        · have hr2 := Lib.run_append_room_string (P := Tryz.prog) w 42 9 o.type 5 i0 Tryz.underlying42 Tryz.underlying9 hi hz1 g bs.length c cur hg str hroom (by omega)
          have := hr.symm.trans hr2
          injection this with e1 _
          injection e1 with e1 _ _
          exact .inl e1
        · have hr2 := Lib.run_append_grow_string (P := Tryz.prog) w 42 9 o.type 5 i0 (.int .u8 0) Tryz.underlying42 Tryz.underlying9 hi hz0 ⟨g, 0, none⟩ bs.length c (vals bs) (by rw [hz1]; simp [vals]) (hown.cells (g := g) rfl) str (by omega) (by omega) (by rw [hz2]; exact growslice_fits (by omega) (by omega))
          have := hr.symm.trans hr2
          injection this with e1 _
          injection e1 with e1 _ _
          exact .inr ⟨_, e1, Nat.le_refl _⟩
  obtain ⟨o', c', w', hr, h1, h2, h3⟩ := key
  refine wpList_plain hgd fun K hK => ?_
  unfold Oper.wp execOp
  simp only [ho, resolve, invoke, builtin, Sem.run_bind, Sem.run_pure, Result.andThen_ok, List.map_toArray, List.map_cons, List.map_nil, hs, hx, hr]
  exact hK _ _ (h o' c' w' h1 h2 h3)

/-- a writer (of type t) at block a: its limit, its bytes' slice, the bytes, its error -/
structure IsW (t : Nat) (w : World) (a : Nat) (o : Option Addr) (c : Nat) (L : Nat) (bs : List Nat) (e : Nat) : Prop where
  blk : w.heap[a]? = some (.cells #[.int .i64 (L : Nat), .slice o bs.length c, .int .i64 (e : Nat)] t (0, 0))
  row : Owns w o c bs
  ap : ¬ inO o a
  fit : bs.length ≤ L
  lim : L ≤ 9223372036854775807
  byt : ∀ c ∈ bs, c < 256
  lid : bs.length ≤ 140737488355328
  er : e ≤ 5

theorem keeps_drewN (S : Nat → Prop) (w : World) (m : Nat) : Keeps S w (w.drewN m) := ⟨rfl, rfl, rfl, Nat.le_refl _, fun _ _ _ => rfl⟩
theorem keeps_set (w : World) (a i : Nat) (u : Value) : Keeps (fun k => k = a) w (w.setCell ⟨a, i, none⟩ u) :=
  (Keeps.refl (fun k => k = a) w).setCell (p := ⟨a, i, none⟩) (.inl rfl) u
def footW (a : Nat) (o : Option Addr) : Nat → Prop := fun k => k = a ∨ inO o k

theorem IsW.keeps {S : Nat → Prop} {t : Nat} {w w' : World} {a : Nat} {o : Option Addr} {c L : Nat} {bs : List Nat} {e : Nat} (h : IsW t w a o c L bs e) (hk : Keeps S w w') (h1 : ∀ k, footW a o k → ¬ S k) : IsW t w' a o c L bs e :=
  ⟨hk.at h.blk (h1 a (.inl rfl)), h.row.keeps hk (fun k hk => h1 k (.inr hk)), h.ap, h.fit, h.lim, h.byt, h.lid, h.er⟩
theorem IsW.lt {t : Nat} {w : World} {a : Nat} {o : Option Addr} {c L : Nat} {bs : List Nat} {e : Nat} (h : IsW t w a o c L bs e) : ∀ k, footW a o k → k < w.heap.size := by
  rintro k (rfl | hk)
  · exact lt_of_block h.blk
  · exact h.row.lt k hk

/-- a call on a writer: what it leaves -/
def WStep (t : Nat) (w : World) (a : Nat) (o : Option Addr) (L : Nat) (st : WS) (w' : World) : Prop :=
  ∃ o' c', IsW t w' a o' c' L st.1 st.2 ∧ Fresh w o o' ∧ Keeps (footW a o) w w'
end Go.Proofs.YtgamhblkgojapaaGreatDoor
