import Derived.Test.YtdemoghlibnooaaGreatDoorRows
import Derived.Test.YtdemoghlibnooaaGreatDoorA0
import Derived.WalkKit
import Derived.Lib.Walk
import Derived.Lib.AppendStr
import Derived.Maps.AppendAt
import Derived.Laws.AppendOwnNone
import Derived.Laws.BytesString
import Derived.Deep.QuietTactic
import Derived.BigQuiet
import Derived.Deep.RegionWith
import Derived.Deep.DeepMust
import Derived.Lib.SliceRun
import Derived.Deep.Cut
import Derived.Deep.CutRange
import Derived.RegionTactic
import Derived.Laws.BitsAllLaws
import Derived.OwnWalk
namespace Go.Proofs.YtdemoghlibnooaaGreatDoor
namespace Pk
set_option linter.unusedVariables false
set_option linter.unusedSimpArgs false
def num : Nat → Nat → List Nat
  | 0, _ => []
  | k + 1, v => num k (v / 256) ++ [v % 256]
def val (l : List Nat) : Nat := l.foldl (fun v c => v * 256 + c) 0
theorem num_length (k v : Nat) : (num k v).length = k := by
  induction k generalizing v with
  | zero => rfl
  | succ k ih => simp [num, ih]
theorem num_lt (k v : Nat) : ∀ c ∈ num k v, c < 256 := by
  induction k generalizing v with
  | zero => intro c hc; cases hc
  | succ k ih =>
    intro c hc
    simp [num] at hc
    rcases hc with h | h
    · exact ih _ c h
    · omega
theorem num_mod (k v : Nat) : num k (v % 256 ^ k) = num k v := by
  induction k generalizing v with
  | zero => rfl
  | succ k ih =>
    unfold num
    have e1 : v % 256 ^ (k + 1) % 256 = v % 256 := Nat.mod_mod_of_dvd v ⟨256 ^ k, by rw [Nat.pow_succ, Nat.mul_comm]⟩
    have e2 : v % 256 ^ (k + 1) / 256 = v / 256 % 256 ^ k := by
      rw [Nat.pow_succ, Nat.mul_comm, Nat.mod_mul_right_div_self]
    rw [e1, e2, ih]
theorem val_append (a b : List Nat) : val (a ++ b) = b.foldl (fun v c => v * 256 + c) (val a) := by
  simp [val]
theorem val_lt (l : List Nat) (h : ∀ c ∈ l, c < 256) : val l < 256 ^ l.length := by
  have : ∀ (l : List Nat) (s n : Nat), (∀ c ∈ l, c < 256) → s < 256 ^ n → l.foldl (fun v c => v * 256 + c) s < 256 ^ (n + l.length) := by
    intro l
    induction l with
    | nil => intro s n _ hs; simpa using hs
    | cons c l ih =>
      intro s n hl hs
      rw [List.foldl_cons, List.length_cons, show n + (l.length + 1) = (n + 1) + l.length by omega]
      apply ih _ _ (fun x hx => hl x (List.mem_cons_of_mem _ hx))
      have := hl c (List.mem_cons_self)
      rw [Nat.pow_succ]
      omega
  have := this l 0 0 h (by simp)
  simpa [val] using this
def txt (s : List Nat) : List Nat := num 4 s.length ++ s
def txtsBody : List (List Nat) → List Nat
  | [] => []
  | s :: l => txt s ++ txtsBody l
def txts (l : List (List Nat)) : List Nat := num 4 l.length ++ txtsBody l
theorem txt_length (s : List Nat) : (txt s).length = 4 + s.length := by simp [txt, num_length]
def bodyLen : List (List Nat) → Nat
  | [] => 0
  | s :: l => 4 + s.length + bodyLen l
theorem txtsBody_length (l : List (List Nat)) : (txtsBody l).length = bodyLen l := by
  induction l with
  | nil => rfl
  | cons s l ih => simp [txtsBody, bodyLen, txt_length, ih]
theorem txts_length (l : List (List Nat)) : (txts l).length = 4 + bodyLen l := by simp [txts, num_length, txtsBody_length]
theorem txtsBody_append (a b : List (List Nat)) : txtsBody (a ++ b) = txtsBody a ++ txtsBody b := by
  induction a with
  | nil => rfl
  | cons s l ih => simp [txtsBody, ih]
theorem bodyLen_append (a b : List (List Nat)) : bodyLen (a ++ b) = bodyLen a + bodyLen b := by
  induction a with
  | nil => simp [bodyLen]
  | cons s l ih => simp [bodyLen, ih]; omega
abbrev WS := List Nat × Nat
def lay (L : Nat) (st : WS) (news : List Nat) : WS :=
  if st.2 ≠ 0 then st else if L < st.1.length + news.length then (st.1, 3) else (st.1 ++ news, 0)
abbrev RS := List Nat × Nat
def rnum (k : Nat) (st : RS) : Nat × RS :=
  if st.2 ≠ 0 then (0, st) else if st.1.length < k then (0, (st.1, 4)) else (val (st.1.take k), (st.1.drop k, 0))
def ccount (b : List Nat) (most : Int) : Nat × List Nat × Nat :=
  if b.length < 4 then (0, b, 4) else if most.toNat < val (b.take 4) then (0, b, 3) else (val (b.take 4), b.drop 4, 0)
def ctext (b : List Nat) (most : Int) : List Nat × List Nat × Nat :=
  match ccount b most with
  | (n, r, e) => if e ≠ 0 then ([], b, e) else if r.length < n then ([], b, 4) else (r.take n, r.drop n, 0)
def ctextsN : Nat → List Nat → Int → List (List Nat) × List Nat × Nat
  | 0, b, _ => ([], b, 0)
  | n + 1, b, most =>
    match ctext b most with
    | (s, r, e) => if e ≠ 0 then ([], b, e) else
      match ctextsN n r most with
      | (l, r', e') => if e' ≠ 0 then ([], b, e') else (s :: l, r', 0)
def ctexts (b : List Nat) (count most : Int) : List (List Nat) × List Nat × Nat :=
  match ccount b count with
  | (n, r, e) => if e ≠ 0 then ([], b, e) else
    match ctextsN n r most with
    | (l, r', e') => if e' ≠ 0 then ([], b, e') else (l, r', 0)
def rcount (most : Int) (st : RS) : Nat × RS :=
  if st.2 ≠ 0 then (0, st) else
  match ccount st.1 most with
  | (n, r, e) => if e ≠ 0 then (0, (st.1, e)) else (n, (r, 0))
def rtext (most : Int) (st : RS) : List Nat × RS :=
  if st.2 ≠ 0 then ([], st) else
  match ctext st.1 most with
  | (s, r, e) => if e ≠ 0 then ([], (st.1, e)) else (s, (r, 0))
def rtexts (count most : Int) (st : RS) : List (List Nat) × RS :=
  if st.2 ≠ 0 then ([], st) else
  match ctexts st.1 count most with
  | (s, r, e) => if e ≠ 0 then ([], (st.1, e)) else (s, (r, 0))
end Pk
end Go.Proofs.YtdemoghlibnooaaGreatDoor
namespace Go.Proofs.YtdemoghlibnooaaGreatDoor
namespace Pk
set_option linter.unusedVariables false
set_option linter.unusedSimpArgs false
end Pk
end Go.Proofs.YtdemoghlibnooaaGreatDoor
namespace Go.Proofs.YtdemoghlibnooaaGreatDoor
open Go.RowKit
open Pk
set_option linter.unusedVariables false
set_option linter.unusedSimpArgs false
theorem info5 : (Tryz.prog.info? 5).map (fun i => (i.zero, i.size, i.bytes)) = some (some (.int .u8 0), 1, 1) := by kernel_rfl
def vals (bs : List Nat) : List Value := bs.map fun c => Value.int .u8 (c : Nat)
theorem vals_length (bs : List Nat) : (vals bs).length = bs.length := by simp [vals]
theorem vals_append (a b : List Nat) : vals (a ++ b) = vals a ++ vals b := by simp [vals]
def Owns (w : World) (o : Option Addr) (c : Nat) (bs : List Nat) : Prop := w.ownsRow 0 5 1 (.slice o bs.length c) bs.length (vals bs)
def Fresh (w : World) (o o' : Option Addr) : Prop := o' = o ∨ ∃ g, o' = some ⟨g, 0, none⟩ ∧ w.heap.size ≤ g
def BRow (w : World) (a : Option Addr) (bs : List Nat) : Prop :=
  (∀ c ∈ bs, c < 256) ∧ bs.length ≤ 9223372036854775807 ∧ (bs = [] ∨ ∃ b off, a = some ⟨b, off, none⟩ ∧ ∀ j, j < bs.length → w.cell? ⟨b, off + j, none⟩ = some (.int .u8 (bs.getD j 0 : Nat)))
theorem BRow.keeps {S : Nat → Prop} {w w' : World} {a : Option Addr} {bs : List Nat} (h : BRow w a bs) (hk : Keeps S w w') (ha : ∀ x, a = some x → ¬ S x.block) : BRow w' a bs := by
  obtain ⟨h1, h2, h3⟩ := h
  refine ⟨h1, h2, ?_⟩
  rcases h3 with h | ⟨b, off, rfl, hc⟩
  · exact .inl h
  · exact .inr ⟨b, off, rfl, fun j hj => hk.cell (hc j hj) (by have := ha ⟨b, off, none⟩ rfl; exact this)⟩
theorem BRow.take {w : World} {a : Option Addr} {bs : List Nat} (h : BRow w a bs) (n : Nat) : BRow w a (bs.take n) := by
  obtain ⟨h1, h2, h3⟩ := h
  refine ⟨fun c hc => h1 c (List.mem_of_mem_take hc), by rw [List.length_take]; omega, ?_⟩
  rcases h3 with h | ⟨b, off, rfl, hc⟩
  · exact .inl (by rw [h]; simp)
  · refine .inr ⟨b, off, rfl, fun j hj => ?_⟩
    have hj1 : j < n ∧ j < bs.length := by rw [List.length_take] at hj; omega
    have := hc j hj1.2
    simp only [List.getD_eq_getElem?_getD] at this ⊢
    rw [List.getElem?_take_of_lt hj1.1]
    exact this
theorem BRow.drop {w : World} {a a' : Option Addr} {bs : List Nat} (h : BRow w a bs) (n : Nat) (hadr : n < bs.length → ∀ b off, a = some ⟨b, off, none⟩ → a' = some ⟨b, off + n, none⟩) : BRow w a' (bs.drop n) := by
  obtain ⟨h1, h2, h3⟩ := h
  refine ⟨fun c hc => h1 c (List.mem_of_mem_drop hc), by rw [List.length_drop]; omega, ?_⟩
  by_cases hn : n < bs.length
  · rcases h3 with h | ⟨b, off, rfl, hc⟩
    · rw [h] at hn; simp at hn
    · refine .inr ⟨b, off + n, hadr hn b off rfl, fun j hj => ?_⟩
      have hj1 : n + j < bs.length := by rw [List.length_drop] at hj; omega
      have := hc (n + j) hj1
      rw [← Nat.add_assoc] at this
      simp only [List.getD_eq_getElem?_getD] at this ⊢
      rw [List.getElem?_drop]
      exact this
  · exact .inl (List.drop_eq_nil_of_le (by omega))
theorem BRow.news {w : World} {ad : Addr} {bs : List Nat} (h : BRow w (some ad) bs) : ∀ j u, (vals bs)[j]? = some u → w.cell? (ad.add j) = some u := by
  intro j u hj
  have hjl : j < bs.length := by
    have := (List.getElem?_eq_some_iff.mp hj).1
    simpa [vals] using this
  obtain ⟨_, _, h⟩ := h
  rcases h with h | ⟨b, off, h, hc⟩
  · rw [h] at hjl; simp at hjl
  · cases h
    have := hc j hjl
    rw [← addr_add] at this
    have e : u = .int .u8 (bs.getD j 0 : Nat) := by
      simp [vals, hjl] at hj
      simp [hjl, hj]
    rw [e]
    exact this
theorem row_of_owns {w : World} {base : Nat} {g n c : Nat} {a : Option Addr} {bs : List Nat} (h : w.ownsRow base 5 1 (.slice a n c) n (vals bs)) (hby : ∀ c ∈ bs, c < 256) (hl : bs.length ≤ 9223372036854775807) : BRow w a bs := by
  have hn : bs.length = n := by have := h.1; simpa [vals] using this
  refine ⟨hby, hl, ?_⟩
  rcases h.2 with ⟨e, h0⟩ | ⟨g', cap', cur, e, _, _⟩
  · exact .inl (List.length_eq_zero_iff.mp (by omega))
  · cases e
    refine .inr ⟨g', 0, rfl, fun j hj => ?_⟩
    rw [Nat.zero_add, World.ownsRow.cellAt h j (by omega)]
    simp [vals, hj]
theorem vals_one {bs : List Nat} : ∀ u ∈ vals bs, u.oneCell' = true := by
  intro u hu; simp [vals] at hu; obtain ⟨c, _, rfl⟩ := hu; rfl
theorem Owns.keeps {S : Nat → Prop} {w w' : World} {o : Option Addr} {c : Nat} {bs : List Nat} (h : Owns w o c bs) (hk : Keeps S w w') (hv : ∀ k, inO o k → ¬ S k) : Owns w' o c bs :=
  ownsRow_keeps h hk (fun k hh => hv k (by cases o with | none => cases hh | some x => exact ⟨x, rfl, by simpa [Value.ownBlock] using hh⟩))
theorem Owns.row {w : World} {o : Option Addr} {c : Nat} {bs : List Nat} (h : Owns w o c bs) (hby : ∀ c ∈ bs, c < 256) (hl : bs.length ≤ 9223372036854775807) : BRow w o bs := row_of_owns (g := 0) h hby hl
theorem Owns.lt {w : World} {o : Option Addr} {c : Nat} {bs : List Nat} (h : Owns w o c bs) : ∀ k, inO o k → k < w.heap.size := by
  rintro k ⟨x, rfl, rfl⟩
  exact (World.ownsRow.lt h x.block rfl).2
theorem Owns.shape {w : World} {o : Option Addr} {c : Nat} {bs : List Nat} (h : Owns w o c bs) : (o = none ∧ c = 0 ∧ bs = []) ∨ ∃ g cur, o = some ⟨g, 0, none⟩ ∧ w.heap[g]? = some (.cells cur 5 (0, 0)) ∧ bs.length ≤ c ∧ c ≤ maxLen ∧ cur.size = c ∧ cur.toList.take bs.length = vals bs := by
  rcases h.2 with ⟨e, h0⟩ | ⟨g, cap, cur, e, _, h1, h2, h3, h4, h5⟩
  · injection e with e1 e2 e3
    exact .inl ⟨e1, e3, List.length_eq_zero_iff.mp h0⟩
  · injection e with e1 e2 e3
    subst e3
    exact .inr ⟨g, cur, e1, h1, h2, h3, by simpa using h4, by simpa using h5⟩
theorem Owns.cap {w : World} {o : Option Addr} {c : Nat} {bs : List Nat} (h : Owns w o c bs) : bs.length ≤ c ∧ (o = none → c = 0) := by
  rcases h.shape with ⟨e, h0, h1⟩ | ⟨g, cur, e, _, h1, _⟩
  · subst h1; exact ⟨by simp, fun _ => h0⟩
  · exact ⟨h1, fun h => by rw [e] at h; cases h⟩
theorem owns_nil (w : World) : Owns w none 0 [] := World.ownsRow_nil w 0 5 1
theorem Owns.alloc {w : World} {o : Option Addr} {c : Nat} {bs : List Nat} (h : Owns w o c bs) (x : Obj) : Owns (w.alloc x) o c bs := World.ownsRow.alloc h x
theorem owns_inj {w w' : World} {o o' : Option Addr} {c c' : Nat} {bs bs' : List Nat} (h : Owns w o c bs) (h' : Owns w' o' c' bs') (e : Value.ownBlock (.slice o' bs'.length c') = Value.ownBlock (.slice o bs.length c)) : o' = o := by
  rcases h.shape with ⟨rfl, _⟩ | ⟨g, cur, rfl, _⟩ <;> rcases h'.shape with ⟨rfl, _⟩ | ⟨g', cur', rfl, _⟩
  · rfl
  · cases e
  · cases e
  · simp [Value.ownBlock] at e; rw [e]
theorem owns_val {w : World} {v : Value} {n : Nat} {bs : List Nat} (h : w.ownsRow 0 5 1 v n (vals bs)) : ∃ o c, v = .slice o n c ∧ n = bs.length ∧ Owns w o c bs := by
  have hn : n = bs.length := by have := h.1; simp [vals] at this; omega
  rcases h.2 with ⟨e, h0⟩ | ⟨g, cap, cur, e, _⟩
  · refine ⟨none, 0, by rw [e, h0], hn, ?_⟩
    unfold Owns
    rw [← hn, h0]
    rw [e, h0] at h
    exact h
  · refine ⟨_, _, e, hn, ?_⟩
    unfold Owns
    rw [← hn, ← e]
    exact h
theorem owns_new (w : World) : Owns (w.alloc (.cells #[] 5)) (some ⟨w.heap.size, 0, none⟩) 0 [] := by
  refine ⟨by simp [vals], .inr ⟨w.heap.size, 0, #[], rfl, Nat.zero_le _, blk_new w _, Nat.le_refl _, by unfold maxLen; omega, by simp, by simp [vals]⟩⟩
theorem wpList_appB {w : World} {ops : Array Oper} {rest : List Oper} {o : Oper} {a : Act} {Q : Exit → Act → World → Prop} (hgd : o.guard = none) (s x : Operand)
    (ho : o.op = .call { callee := .builtin .append, args := #[s, x], argTypes := #[29, 29] })
    (oa : Option Addr) (n c : Nat) (bs : List Nat) (hs : a.eval s = .slice oa n c) (hn : n = bs.length) (hown : Owns w oa c bs)
    (ox : Option Addr) (m d : Nat) (news : List Nat) (hx : a.eval x = .slice ox m d) (hm : m = news.length) (hd : ox = none → d = 0) (hrow : BRow w ox news)
    (hb : n + m ≤ 140737488355328)
    (h : ∀ o' c' w', Owns w' o' c' (bs ++ news) → Fresh w oa o' → Keeps (inO oa) w w' → wpList Tryz.prog ops Q rest (a.put o.dst (.slice o' (n + m) c')) w') : wpList Tryz.prog ops Q (o :: rest) a w := by
  obtain ⟨i0, hi, hz0, hz1, hz2⟩ := info_parts info5
  subst hn hm
  match ox with
  | none =>
    obtain rfl : news = [] := by rcases hrow.2.2 with h | ⟨b, off, h, _⟩; exact h; cases h
    obtain rfl : d = 0 := hd rfl
    refine wpList_append_own_none hgd s x 29 ho 0 5 i0 1 Tryz.underlying29 hi _ _ _ hs hown hx ?_
    exact h oa c w (by simpa using hown) (.inl rfl) (Keeps.refl _ _)
  | some ad =>
    refine wpList_append_own_at _ hgd s x 29 ho 0 5 i0 (.int .u8 0) 1 1 Tryz.underlying29 hi hz0 hz1 hz2 rfl (by decide) _ bs.length (vals bs) hs hown ad _ _ (vals news) hx (by simp [vals]) hrow.news vals_one (by unfold maxLen; omega) (by omega) (Nat.zero_le _) ?_
    intro v' w' hown' hg _ hat
    rw [← vals_append] at hown'
    obtain ⟨o', c', rfl, hlen, hown''⟩ := owns_val hown'
    refine h o' c' w' hown'' ?_ ((Keeps.refl _ _).grown hg (fun k hk => .inl ((own_blk _ _ _ _).1 hk)))
    rcases hat with hat | hat
    · rw [hlen] at hat
      exact .inl (owns_inj hown hown'' hat)
    · obtain ⟨y, rfl, hy⟩ := (own_blk _ _ _ _).1 hat
      rcases hown''.shape with ⟨e, _⟩ | ⟨g, cur, e, _⟩
      · cases e
      · cases e; exact .inr ⟨g, rfl, Nat.le_of_eq hy.symm⟩
def nats (s : ByteArray) : List Nat := s.data.toList.map UInt8.toNat
theorem nats_length (s : ByteArray) : (nats s).length = s.size := by unfold nats; rw [List.length_map]; rfl
theorem nats_lt (s : ByteArray) : ∀ c ∈ nats s, c < 256 := by
  intro c hc; simp [nats] at hc; obtain ⟨b, _, rfl⟩ := hc; exact b.toNat_lt
theorem strCells_nats (s : ByteArray) : Lib.strCells s = vals (nats s) := by unfold Lib.strCells vals nats; rw [List.map_map]; rfl
theorem wpList_appS {w : World} {ops : Array Oper} {rest : List Oper} {o : Oper} {a : Act} {Q : Exit → Act → World → Prop} (hgd : o.guard = none) (s x : Operand)
    (ho : o.op = .call { callee := .builtin .append, args := #[s, x], argTypes := #[29, 9] })
    (oa : Option Addr) (n c : Nat) (bs : List Nat) (hs : a.eval s = .slice oa n c) (hn : n = bs.length) (hown : Owns w oa c bs)
    (str : ByteArray) (hx : a.eval x = .string str) (hb : n + str.size ≤ 140737488355328)
    (h : ∀ o' c' w', Owns w' o' c' (bs ++ nats str) → Fresh w oa o' → Keeps (inO oa) w w' → wpList Tryz.prog ops Q rest (a.put o.dst (.slice o' (n + str.size) c')) w') : wpList Tryz.prog ops Q (o :: rest) a w := by
  obtain ⟨i0, hi, hz0, hz1, hz2⟩ := info_parts info5
  subst hn
  have key : ∃ o' c' w', (Builtin.append_ #[29, 9] o.type #[.slice oa bs.length c, .string str]).run Tryz.prog w = .ok (.slice o' (bs.length + str.size) c') w' ∧ Owns w' o' c' (bs ++ nats str) ∧ Fresh w oa o' ∧ Keeps (inO oa) w w' := by
    have hmx : bs.length + str.size ≤ maxLen := by unfold maxLen; omega
    match oa with
    | none =>
      obtain ⟨h0, rfl⟩ : bs = [] ∧ c = 0 := by
        rcases hown.shape with ⟨e, h0, h1⟩ | ⟨g, cur, e, _⟩
        · exact ⟨h1, h0⟩
        · cases e
      subst h0
      obtain ⟨v', w', hr, h2, h3, h4⟩ := Lib.run_append_own_string (P := Tryz.prog) w w.heap.size 29 9 o.type 5 i0 Tryz.underlying29 Tryz.underlying9 hi hz0 hz1 hz2 (.slice none 0 0) 0 [] (World.ownsRow_nil w _ 5 1) str (by simpa using hmx) (by simpa using hb) (Nat.le_refl _)
      rw [strCells_nats, List.nil_append] at h2
      have hfr : ∀ o' c' n', v' = .slice o' n' c' → o' = none ∨ ∃ g, o' = some ⟨g, 0, none⟩ ∧ w.heap.size ≤ g := by
        intro o' c' n' hv
        rcases h2.2 with ⟨e, _⟩ | ⟨g, cap, cur, e, hb, _⟩
        · rw [hv] at e; injection e with e1 _ _; exact .inl e1
        · rw [hv] at e; injection e with e1 _ _; exact .inr ⟨g, e1, hb⟩
      have h2' : w'.ownsRow 0 5 1 v' (0 + str.size) (vals (nats str)) := by
        refine ⟨h2.1, ?_⟩
        rcases h2.2 with h | ⟨g, cap, cur, e, hb, hr⟩
        · exact .inl h
        · exact .inr ⟨g, cap, cur, e, Nat.zero_le _, hr⟩
      obtain ⟨o', c', rfl, hlen, hown''⟩ := owns_val h2'
      refine ⟨o', c', w', hr, by simpa using hown'', ?_, (Keeps.refl _ _).grown h3 (fun k hk => by cases hk)⟩
      rcases hfr _ _ _ rfl with e | ⟨g, e, hg⟩
      · exact .inl e
      · exact .inr ⟨g, e, hg⟩
    | some ad =>
      obtain ⟨v', w', hr, h2, h3, h4⟩ := Lib.run_append_own_string (P := Tryz.prog) w 0 29 9 o.type 5 i0 Tryz.underlying29 Tryz.underlying9 hi hz0 hz1 hz2 _ _ _ hown str hmx hb (Nat.zero_le _)
      rw [strCells_nats, ← vals_append] at h2
      obtain ⟨o', c', rfl, hlen, hown''⟩ := owns_val h2
      refine ⟨o', c', w', hr, hown'', ?_, (Keeps.refl _ _).grown h3 (fun k hk => .inl ((own_blk _ _ _ _).1 hk))⟩
      rcases hown.shape with ⟨e, _⟩ | ⟨g, cur, e, hg, hnc, hcm, hcs, htake⟩
      · cases e
      · cases e
        by_cases hroom : bs.length + str.size ≤ c
        · have hr2 := Lib.run_append_room_string (P := Tryz.prog) w 29 9 o.type 5 i0 Tryz.underlying29 Tryz.underlying9 hi hz1 g bs.length c cur hg str hroom (by omega)
          have := hr.symm.trans hr2
          injection this with e1 _
          injection e1 with e1 _ _
          exact .inl e1
        · have hr2 := Lib.run_append_grow_string (P := Tryz.prog) w 29 9 o.type 5 i0 (.int .u8 0) Tryz.underlying29 Tryz.underlying9 hi hz0 ⟨g, 0, none⟩ bs.length c (vals bs) (by rw [hz1]; simp [vals]) (hown.cells (g := g) rfl) str (by omega) (by omega) (by rw [hz2]; exact growslice_fits (by omega) (by omega))
          have := hr.symm.trans hr2
          injection this with e1 _
          injection e1 with e1 _ _
          exact .inr ⟨_, e1, Nat.le_refl _⟩
  obtain ⟨o', c', w', hr, h1, h2, h3⟩ := key
  refine wpList_plain hgd fun K hK => ?_
  unfold Oper.wp execOp
  simp only [ho, resolve, invoke, builtin, Sem.run_bind, Sem.run_pure, Result.andThen_ok, List.map_toArray, List.map_cons, List.map_nil, hs, hx, hr]
  exact hK _ _ (h o' c' w' h1 h2 h3)
structure IsW (t : Nat) (w : World) (a : Nat) (o : Option Addr) (c : Nat) (L : Nat) (bs : List Nat) (e : Nat) : Prop where
  blk : w.heap[a]? = some (.cells #[.int .i64 (L : Nat), .slice o bs.length c, .int .i64 (e : Nat)] t (0, 0))
  row : Owns w o c bs
  ap : ¬ inO o a
  fit : bs.length ≤ L
  lim : L ≤ 9223372036854775807
  byt : ∀ c ∈ bs, c < 256
  lid : bs.length ≤ 140737488355328
  er : e ≤ 5
theorem keeps_drewN (S : Nat → Prop) (w : World) (m : Nat) : Keeps S w (w.drewN m) := ⟨rfl, rfl, rfl, Nat.le_refl _, fun _ _ _ => rfl⟩
theorem keeps_set (w : World) (a i : Nat) (u : Value) : Keeps (fun k => k = a) w (w.setCell ⟨a, i, none⟩ u) :=
  (Keeps.refl (fun k => k = a) w).setCell (p := ⟨a, i, none⟩) (.inl rfl) u
def footW (a : Nat) (o : Option Addr) : Nat → Prop := fun k => k = a ∨ inO o k
theorem IsW.keeps {S : Nat → Prop} {t : Nat} {w w' : World} {a : Nat} {o : Option Addr} {c L : Nat} {bs : List Nat} {e : Nat} (h : IsW t w a o c L bs e) (hk : Keeps S w w') (h1 : ∀ k, footW a o k → ¬ S k) : IsW t w' a o c L bs e :=
  ⟨hk.at h.blk (h1 a (.inl rfl)), h.row.keeps hk (fun k hk => h1 k (.inr hk)), h.ap, h.fit, h.lim, h.byt, h.lid, h.er⟩
def WStep (t : Nat) (w : World) (a : Nat) (o : Option Addr) (L : Nat) (st : WS) (w' : World) : Prop :=
  ∃ o' c', IsW t w' a o' c' L st.1 st.2 ∧ Fresh w o o' ∧ Keeps (footW a o) w w'
end Go.Proofs.YtdemoghlibnooaaGreatDoor
namespace Go.Proofs.YtdemoghlibnooaaGreatDoor
open Go.RowKit
open Pk
set_option linter.unusedVariables false
set_option linter.unusedSimpArgs false
theorem newWriter_any (l : Int) (w : World) (h1 : -9223372036854775808 ≤ l) (h2 : l ≤ 9223372036854775807) :
    Calls Tryz.prog 143 #[.int .i64 l] w fun e w' => e = .returned (.pointer (some ⟨w.heap.size, 0, none⟩)) ∧ IsW 266 w' w.heap.size none 0 l.toNat [] 0 ∧ Keeps (fun _ => False) w w' := by
  go_enter Tryz.func143, Tryz.ntmps143
  go_wp2
  go_ret
  refine ⟨rfl, ⟨?_, owns_nil _, fun ⟨x, h, _⟩ => (by cases h), Nat.zero_le _, by omega, (fun _ h => by cases h), Nat.zero_le _, Nat.zero_le _⟩, (Keeps.refl _ _).alloc _⟩
  rw [blk_new, show (max l 0) = ((l.toNat : Nat) : Int) by omega]
  rfl
theorem room_any (w : World) (a : Nat) (o : Option Addr) (c L : Nat) (bs : List Nat) (e0 : Nat) (h : IsW 266 w a o c L bs e0) :
    Calls Tryz.prog 237 #[.pointer (some ⟨a, 0, none⟩)] w fun e w' => e = .returned (.int .i64 ((L - bs.length : Nat) : Int)) ∧ ∃ m, w' = w.drewN m := by
  have c0 : w.cell? ⟨a, 0, none⟩ = some (.int .i64 (L : Nat)) := cell_of_blk h.blk 0
  have c1 : w.cell? ⟨a, 1, none⟩ = some (.slice o bs.length c) := cell_of_blk h.blk 1
  have hfit := h.fit
  have hlim := h.lim
  clear h
  go_enter Tryz.func237, Tryz.ntmps237
  go_wp2
  go_quiet (fail)
  go_wp2
  go_ret
  refine ⟨?_, ⟨_, rfl⟩⟩
  show Ending.returned (.int .i64 _) = _
  congr 2
  omega
set_option maxRecDepth 100000 in
theorem clone_some (w : World) (ad : Addr) (bs : List Nat) (n cap : Nat) (hn : n = bs.length) (hr : BRow w (some ad) bs) (hl : n ≤ 140737488355328) :
    Calls Tryz.prog 130 #[.slice (some ad) n cap] w fun e w' => ∃ g c, e = .returned (.slice (some ⟨g, 0, none⟩) n c) ∧ w.heap.size ≤ g ∧ Owns w' (some ⟨g, 0, none⟩) c bs ∧ Keeps (fun _ => False) w w' := by
  subst hn
  have hk : Keeps (fun _ => False) w (w.alloc (.cells #[] 5)) := (Keeps.refl _ _).alloc _
  have hnil := fun w => Lib.run_eql_slice_nil (P := Tryz.prog) w 29 5 (some ad) bs.length cap 0 0 Tryz.underlying29
  go_enter Tryz.func130, Tryz.ntmps130
  go_wp2_with (at_builtin; go_must (refine wpList_appB rfl _ _ rfl (some ⟨w.heap.size, 0, none⟩) 0 0 [] (by rfl) rfl (owns_new w) (some ad) _ cap bs (by rfl) rfl (by simp) (hr.keeps hk (fun _ _ h => h)) (by omega) ?_); intro o' c' w' hown hfr hkk)
  go_ret
  rw [List.nil_append] at hown
  have hb : ∃ g, o' = some ⟨g, 0, none⟩ ∧ w.heap.size ≤ g := by
    rcases hfr with e | ⟨g, e, hg⟩
    · exact ⟨_, e, Nat.le_refl _⟩
    · exact ⟨g, e, by simp at hg; omega⟩
  obtain ⟨g, rfl, hg⟩ := hb
  refine ⟨g, c', ?_, hg, hown, hk.then hkk ?_⟩
  · simp
  · rintro i ⟨x, h, rfl⟩
    cases h; right; simp
set_option maxRecDepth 100000 in
theorem clone_none (w : World) :
    Calls Tryz.prog 130 #[.slice none 0 0] w fun e w' => e = .returned (.slice none 0 0) ∧ w' = w := by
  have hnil := fun w => Lib.run_eql_slice_nil (P := Tryz.prog) w 29 5 none 0 0 0 0 Tryz.underlying29
  go_enter Tryz.func130, Tryz.ntmps130
  go_wp2
  go_ret
  exact ⟨rfl, rfl⟩
def AppTo (w : World) (o : Option Addr) (bs' : List Nat) (e : Ending) (w' : World) : Prop :=
  ∃ o' c' n', e = .returned (.slice o' n' c') ∧ Hid (n' = bs'.length) ∧ Owns w' o' c' bs' ∧ Fresh w o o' ∧ Keeps (inO o) w w'
theorem Fresh.trans {w w' : World} {o o' o'' : Option Addr} (h : Fresh w o o') (h' : Fresh w' o' o'') (hs : w.heap.size ≤ w'.heap.size) : Fresh w o o'' := by
  rcases h' with rfl | ⟨g, e, hg⟩
  · exact h
  · exact .inr ⟨g, e, by omega⟩
theorem Fresh.old {w w0 : World} {o o' : Option Addr} (h : Fresh w0 o o') (hs : w.heap.size ≤ w0.heap.size) : Fresh w o o' := by
  rcases h with rfl | ⟨g, e, hg⟩
  · exact .inl rfl
  · exact .inr ⟨g, e, by omega⟩
theorem Fresh.in {w : World} {o o' : Option Addr} (h : Fresh w o o') : ∀ k, inO o' k → inO o k ∨ w.heap.size ≤ k := by
  rintro k ⟨x, hx, rfl⟩
  rcases h with rfl | ⟨g, rfl, hg⟩
  · exact .inl ⟨x, hx, rfl⟩
  · cases hx; exact .inr hg
theorem num4 (v : Nat) (hv : v < 4294967296) : num 4 v = [v / 16777216, v / 65536 % 256, v / 256 % 256, v % 256] := by
  simp only [num, List.nil_append, List.cons_append, Nat.div_div_eq_div_mul]
  simp
  omega
theorem row_lit (w : World) (bs : List Nat) (h : ∀ c ∈ bs, c < 256) (hl : bs.length ≤ 9223372036854775807) : BRow (w.alloc (.cells (vals bs).toArray 5)) (some ⟨w.heap.size, 0, none⟩) bs := by
  refine ⟨h, hl, .inr ⟨_, _, rfl, fun j hj => ?_⟩⟩
  rw [cell_of_blk (blk_new w _)]
  simp [vals, hj]
theorem appendU32_any (w : World) (o : Option Addr) (n c : Nat) (bs : List Nat) (v : Nat) (hv : v < 4294967296) (hn : n = bs.length) (hown : Owns w o c bs) (hl : n + 4 ≤ 140737488355328) :
    Calls Tryz.prog 186 #[.slice o n c, .int .u32 (v : Nat)] w (AppTo w o (bs ++ num 4 v)) := by
  subst hn
  have hrow := row_lit w (num 4 v) (num_lt 4 v) (by rw [num_length]; omega)
  have e4 : (vals (num 4 v)).toArray = #[.int .u8 ((v : Int) / 16777216), .int .u8 ((v : Int) / 65536 % 256), .int .u8 ((v : Int) / 256 % 256), .int .u8 ((v : Int) % 256)] := by
    rw [num4 v hv]; simp [vals]
  rw [e4] at hrow
  clear e4
  go_enter Tryz.func186, Tryz.ntmps186
  go_wp2_with (at_builtin; go_must (refine wpList_appB rfl _ _ rfl o _ c bs (by rfl) rfl (hown.alloc _) (some ⟨w.heap.size, 0, none⟩) 4 4 (num 4 v) (by rfl) (num_length 4 v).symm (by simp) hrow (by omega) ?_); intro o' c' w' hown hfr hkk)
  go_ret
  exact ⟨o', c', _, rfl, (by show _ = _; simp [num_length]), hown, hfr.old (by simp), ((Keeps.refl _ _).alloc _).then hkk (fun i h => .inl h)⟩
theorem num4_mod (v : Nat) : num 4 (v % 4294967296) = num 4 v := num_mod 4 v
theorem appendText_any (w : World) (o : Option Addr) (n c : Nat) (bs : List Nat) (s : ByteArray) (hn : n = bs.length) (hown : Owns w o c bs) (hl : n + 4 + s.size ≤ 140737488355328) :
    Calls Tryz.prog 238 #[.slice o n c, .string s] w (AppTo w o (bs ++ txt (nats s))) := by
  subst hn
  go_enter Tryz.func238, Tryz.ntmps238
  go_wp2_with fail
  rw [show ((s.size : Int) % 4294967296) = ((s.size % 4294967296 : Nat) : Int) by omega]
  refine (appendU32_any w o _ c bs (s.size % 4294967296) (by omega) rfl hown (by omega)).mono ?_
  rintro e w1 ⟨o1, c1, n1, rfl, hn1, hown1, hfr1, hk1⟩
  rw [num4_mod] at hown1 hn1
  have hn2 : Hid (n1 = bs.length + 4) := by show _ = _; rw [hn1.out, List.length_append, num_length]
  generalize hX : bs ++ num 4 s.size = X at hown1 hn1
  have HX : Hid (bs ++ num 4 s.size = X) := hX
  clear hX
  go_wp2_with (at_builtin; go_must (refine wpList_appS rfl _ _ rfl o1 _ c1 X (by rfl) hn1.out hown1 s (by rfl) (by have := hn2.out; omega) ?_); intro o' c' w' hown2 hfr2 hk2)
  go_ret
  have e2 : X ++ nats s = bs ++ txt (nats s) := by rw [← HX.out, txt, nats_length, List.append_assoc]
  rw [e2] at hown2
  refine ⟨o', c', _, rfl, ?_, hown2, hfr1.trans hfr2 hk1.size, hk1.then hk2 hfr1.in⟩
  have := hn2.out
  show _ = _
  rw [List.length_append, txt_length, nats_length]
  omega
theorem claims_any (w : World) (a : Nat) (o : Option Addr) (c L : Nat) (bs : List Nat) (e0 : Nat) (z : Int) (hz : 0 ≤ z) (hz2 : z ≤ 9223372036854775807) (h : IsW 266 w a o c L bs e0) :
    Calls Tryz.prog 185 #[.pointer (some ⟨a, 0, none⟩), .int .i64 z] w fun e w' =>
      (e0 = 0 ∧ bs.length + z.toNat ≤ L ∧ e = .returned (.bool true) ∧ ∃ m, w' = w.drewN m) ∨
      (e0 = 0 ∧ L < bs.length + z.toNat ∧ e = .returned (.bool false) ∧ IsW 266 w' a o c L bs 3 ∧ Keeps (fun k => k = a) w w') ∨
      (e0 ≠ 0 ∧ e = .returned (.bool false) ∧ w' = w) := by
  have hfit := h.fit
  have c2 : w.cell? ⟨a, 2, none⟩ = some (.int .i64 (e0 : Nat)) := cell_of_blk h.blk 2
  have f2 : w.frozen? ⟨a, 2, none⟩ = false := frozen_of_blk h.blk 2
  by_cases he : e0 = 0
  · subst he
    go_enter Tryz.func185, Tryz.ntmps185
    go_wp2_with fail
    refine (room_any w a o c L bs 0 h).mono ?_
    rintro e w1 ⟨rfl, m, rfl⟩
    by_cases hr : L - bs.length < z
    · go_wp2
      go_ret
      have hb : (w.drewN m).heap[a]? = w.heap[a]? := rfl
      have hkk : Keeps (fun k => k = a) w ((w.drewN m).setCell ⟨a, 2, none⟩ (.int .i64 3)) := (keeps_drewN _ w m).trans (keeps_set _ _ _ _)
      refine .inr (.inl ⟨by trivial, by omega, rfl, ⟨?_, ?_, h.ap, h.fit, h.lim, h.byt, h.lid, by omega⟩, hkk⟩)
      · rw [blk_set (hb.trans h.blk)]; rfl
      · exact h.row.keeps hkk (fun k hk e => h.ap (e ▸ hk))
    · go_wp2
      go_ret
      exact .inl ⟨by trivial, by omega, rfl, m, rfl⟩
  · have he' : ¬ ((e0 : Nat) : Int) = 0 := by omega
    go_enter Tryz.func185, Tryz.ntmps185
    go_wp2
    go_ret
    exact .inr (.inr ⟨he, by simp [he', he], rfl⟩)
theorem lay_err (L : Nat) (bs news : List Nat) (e : Nat) (h : e ≠ 0) : lay L (bs, e) news = (bs, e) := by simp [lay, h]
theorem lay_long (L : Nat) (bs news : List Nat) (h : L < bs.length + news.length) : lay L (bs, 0) news = (bs, 3) := by simp [lay, h]
theorem lay_fits (L : Nat) (bs news : List Nat) (h : bs.length + news.length ≤ L) : lay L (bs, 0) news = (bs ++ news, 0) := by simp [lay, Nat.not_lt.mpr h]
theorem IsW.put {t : Nat} {w w1 : World} {a : Nat} {o o1 : Option Addr} {c c1 L : Nat} {bs bs1 : List Nat} {e : Nat} (h : IsW t w a o c L bs e) (hk : Keeps (inO o) w w1) (hown : Owns w1 o1 c1 bs1) (hfr : Fresh w o o1) (hfit : bs1.length ≤ L) (hby : ∀ c ∈ bs1, c < 256) (hlid : bs1.length ≤ 140737488355328) (n1 : Nat) (hn1 : n1 = bs1.length) :
    IsW t (w1.setCell ⟨a, 1, none⟩ (.slice o1 n1 c1)) a o1 c1 L bs1 e ∧ Keeps (footW a o) w (w1.setCell ⟨a, 1, none⟩ (.slice o1 n1 c1)) := by
  subst hn1
  have hap : ¬ inO o1 a := by
    intro hin
    rcases hfr.in a hin with h' | h'
    · exact h.ap h'
    · have := lt_of_block h.blk; omega
  refine ⟨⟨?_, ?_, hap, hfit, h.lim, hby, hlid, h.er⟩, (hk.mono (fun i hi => .inr hi)).setCell (.inl (.inl rfl)) _⟩
  · rw [blk_set (hk.at h.blk h.ap)]; rfl
  · have hkk : Keeps (fun k => k = a) w1 (w1.setCell ⟨a, 1, none⟩ (.slice o1 bs1.length c1)) := keeps_set _ _ _ _
    exact hown.keeps hkk (fun k hk e => hap (e ▸ hk))
theorem app_lt {a b : List Nat} (h1 : ∀ c ∈ a, c < 256) (h2 : ∀ c ∈ b, c < 256) : ∀ c ∈ a ++ b, c < 256 := by
  intro c hc; rcases List.mem_append.mp hc with h | h; exact h1 c h; exact h2 c h
theorem lay_lid {L : Nat} {bs news : List Nat} {e0 : Nat} (h : (lay L (bs, e0) news).1.length ≤ 140737488355328) (he : e0 = 0) (hf : bs.length + news.length ≤ L) : bs.length + news.length ≤ 140737488355328 := by
  subst he; rw [lay_fits _ _ _ hf] at h; simpa using h
set_option maxRecDepth 10000 in
theorem wU32_any (w : World) (a : Nat) (o : Option Addr) (c L : Nat) (bs : List Nat) (e0 : Nat) (v : Nat) (hv : v < 4294967296) (h : IsW 266 w a o c L bs e0) (hlid : (lay L (bs, e0) (num 4 v)).1.length ≤ 140737488355328) :
    Calls Tryz.prog 144 #[.pointer (some ⟨a, 0, none⟩), .int .u32 (v : Nat)] w fun e w' => e = .returned (.tuple #[]) ∧ WStep 266 w a o L (lay L (bs, e0) (num 4 v)) w' := by
  have HLID : Hid ((lay L (bs, e0) (num 4 v)).1.length ≤ 140737488355328) := hlid
  clear hlid
  have hlen : Hid ((num 4 v).length = 4) := num_length 4 v
  go_enter Tryz.func144, Tryz.ntmps144
  go_wp2_with fail
  refine (claims_any w a o c L bs e0 4 (by omega) (by omega) h).mono ?_
  rintro e w1 (⟨rfl, hfit, rfl, m, rfl⟩ | ⟨rfl, hlong, rfl, hW, hk⟩ | ⟨he, rfl, rfl⟩)
  · have c1 : w.cell? ⟨a, 1, none⟩ = some (.slice o bs.length c) := cell_of_blk h.blk 1
    have hh : IsW 266 (w.drewN m) a o c L bs 0 := h.keeps (keeps_drewN (fun _ => False) w m) (fun _ _ h => h)
    have hfit' : Hid (bs.length + (num 4 v).length ≤ L) := by show _ ≤ _; rw [hlen.out]; omega
    have hb : Hid (bs.length + (num 4 v).length ≤ 140737488355328) := lay_lid HLID.out rfl hfit'.out
    go_wp2_with fail
    refine (appendU32_any (w.drewN m) o _ c bs v hv rfl hh.row (by have := hb.out; rw [hlen.out] at this; exact this)).mono ?_
    rintro e w1 ⟨o1, c1', n1, rfl, hn1, hown1, hfr1, hk1⟩
    have f1 : w1.frozen? ⟨a, 1, none⟩ = false := frozen_of_blk (hk1.at hh.blk hh.ap) 1
    obtain ⟨v1, c1⟩ : ∃ v, w1.cell? ⟨a, 1, none⟩ = some v := ⟨_, cell_of_blk (hk1.at hh.blk hh.ap) 1⟩
    obtain ⟨hW, hK⟩ := hh.put hk1 hown1 hfr1 (by rw [List.length_append]; exact hfit'.out) (app_lt h.byt (num_lt 4 v)) (by rw [List.length_append]; exact hb.out) n1 hn1.out
    have hK' := (keeps_drewN (footW a o) w m).trans hK
    go_wp2
    go_end0
    rw [lay_fits _ _ _ hfit'.out]
    exact ⟨rfl, o1, c1', hW, hfr1, hK'⟩
  · go_wp2
    go_end0
    rw [lay_long _ _ _ (by rw [hlen.out]; omega)]
    exact ⟨rfl, o, c, hW, .inl rfl, hk.mono (fun i hi => .inl hi)⟩
  · go_wp2
    go_end0
    rw [lay_err _ _ _ _ he]
    exact ⟨rfl, o, c, h, .inl rfl, Keeps.refl _ _⟩
set_option maxRecDepth 10000 in
theorem wText_any (w : World) (a : Nat) (o : Option Addr) (c L : Nat) (bs : List Nat) (e0 : Nat) (s : ByteArray) (hs : s.size ≤ 140737488351232) (h : IsW 266 w a o c L bs e0) (hlid : (lay L (bs, e0) (txt (nats s))).1.length ≤ 140737488355328) :
    Calls Tryz.prog 187 #[.pointer (some ⟨a, 0, none⟩), .string s] w fun e w' => e = .returned (.tuple #[]) ∧ WStep 266 w a o L (lay L (bs, e0) (txt (nats s))) w' := by
  have HLID : Hid ((lay L (bs, e0) (txt (nats s))).1.length ≤ 140737488355328) := hlid
  clear hlid
  have hlen : Hid ((txt (nats s)).length = 4 + s.size) := by show _ = _; rw [txt_length, nats_length]
  go_enter Tryz.func187, Tryz.ntmps187
  go_wp2_with fail
  refine (claims_any w a o c L bs e0 (4 + (s.size : Int)) (by omega) (by omega) h).mono ?_
  rintro e w1 (⟨rfl, hfit, rfl, m, rfl⟩ | ⟨rfl, hlong, rfl, hW, hk⟩ | ⟨he, rfl, rfl⟩)
  · have c1 : w.cell? ⟨a, 1, none⟩ = some (.slice o bs.length c) := cell_of_blk h.blk 1
    have hh : IsW 266 (w.drewN m) a o c L bs 0 := h.keeps (keeps_drewN (fun _ => False) w m) (fun _ _ h => h)
    have hfit' : Hid (bs.length + (txt (nats s)).length ≤ L) := by show _ ≤ _; rw [hlen.out]; omega
    have hb : Hid (bs.length + (txt (nats s)).length ≤ 140737488355328) := lay_lid HLID.out rfl hfit'.out
    go_wp2_with fail
    refine (appendText_any (w.drewN m) o _ c bs s rfl hh.row (by have := hb.out; rw [hlen.out] at this; omega)).mono ?_
    rintro e w1 ⟨o1, c1', n1, rfl, hn1, hown1, hfr1, hk1⟩
    have f1 : w1.frozen? ⟨a, 1, none⟩ = false := frozen_of_blk (hk1.at hh.blk hh.ap) 1
    obtain ⟨v1, c1⟩ : ∃ v, w1.cell? ⟨a, 1, none⟩ = some v := ⟨_, cell_of_blk (hk1.at hh.blk hh.ap) 1⟩
    obtain ⟨hW, hK⟩ := hh.put hk1 hown1 hfr1 (by rw [List.length_append]; exact hfit'.out) (app_lt h.byt (app_lt (num_lt _ _) (nats_lt s))) (by rw [List.length_append]; exact hb.out) n1 hn1.out
    have hK' := (keeps_drewN (footW a o) w m).trans hK
    go_wp2
    go_end0
    rw [lay_fits _ _ _ hfit'.out]
    exact ⟨rfl, o1, c1', hW, hfr1, hK'⟩
  · go_wp2
    go_end0
    rw [lay_long _ _ _ (by rw [hlen.out]; omega)]
    exact ⟨rfl, o, c, hW, .inl rfl, hk.mono (fun i hi => .inl hi)⟩
  · go_wp2
    go_end0
    rw [lay_err _ _ _ _ he]
    exact ⟨rfl, o, c, h, .inl rfl, Keeps.refl _ _⟩
theorem num8 (v : Nat) : num 8 v = num 4 (v / 4294967296) ++ num 4 v := by
  simp only [num, List.nil_append, List.cons_append, Nat.div_div_eq_div_mul, List.append_assoc]
set_option maxRecDepth 10000 in
theorem wU64_any (w : World) (a : Nat) (o : Option Addr) (c L : Nat) (bs : List Nat) (e0 : Nat) (v : Nat) (hv : v < 18446744073709551616) (h : IsW 266 w a o c L bs e0) (hlid : (lay L (bs, e0) (num 8 v)).1.length ≤ 140737488355328) :
    Calls Tryz.prog 146 #[.pointer (some ⟨a, 0, none⟩), .int .u64 (v : Nat)] w fun e w' => e = .returned (.tuple #[]) ∧ WStep 266 w a o L (lay L (bs, e0) (num 8 v)) w' := by
  have HLID : Hid ((lay L (bs, e0) (num 8 v)).1.length ≤ 140737488355328) := hlid
  clear hlid
  have hlen : Hid ((num 8 v).length = 8) := num_length 8 v
  go_enter Tryz.func146, Tryz.ntmps146
  go_wp2_with fail
  refine (claims_any w a o c L bs e0 8 (by omega) (by omega) h).mono ?_
  rintro e w1 (⟨rfl, hfit, rfl, m, rfl⟩ | ⟨rfl, hlong, rfl, hW, hk⟩ | ⟨he, rfl, rfl⟩)
  · have c1 : w.cell? ⟨a, 1, none⟩ = some (.slice o bs.length c) := cell_of_blk h.blk 1
    have hh : IsW 266 (w.drewN m) a o c L bs 0 := h.keeps (keeps_drewN (fun _ => False) w m) (fun _ _ h => h)
    have hfit' : Hid (bs.length + (num 8 v).length ≤ L) := by show _ ≤ _; rw [hlen.out]; omega
    have hb : Hid (bs.length + (num 8 v).length ≤ 140737488355328) := lay_lid HLID.out rfl hfit'.out
    have hb8 : bs.length + 8 ≤ 140737488355328 := by have := hb.out; rw [hlen.out] at this; exact this
    go_wp2_with fail
    refine (appendU32_any (w.drewN m) o _ c bs (v / 4294967296) (by omega) rfl hh.row (by omega)).mono ?_
    rintro e w0 ⟨o0, c0', n0, rfl, hn0, hown0, hfr0, hk0⟩
    have hn0' : Hid (n0 = bs.length + 4) := by show _ = _; rw [hn0.out, List.length_append, num_length]
    go_wp2_with fail
    rw [show ((v : Int) % 4294967296) = ((v % 4294967296 : Nat) : Int) by omega]
    refine (appendU32_any w0 o0 _ c0' _ (v % 4294967296) (by omega) hn0.out hown0 (by have := hn0'.out; omega)).mono ?_
    rintro e w1 ⟨o1, c1', n1, rfl, hn1, hown1, hfr1', hk1'⟩
    have e8 : bs ++ num 4 (v / 4294967296) ++ num 4 (v % 4294967296) = bs ++ num 8 v := by
      rw [num4_mod, num8, List.append_assoc]
    rw [e8] at hown1 hn1
    have hk1 := hk0.then hk1' hfr0.in
    have hfr1 := hfr0.trans hfr1' hk0.size
    clear e8
    have f1 : w1.frozen? ⟨a, 1, none⟩ = false := frozen_of_blk (hk1.at hh.blk hh.ap) 1
    obtain ⟨v1, c1⟩ : ∃ v, w1.cell? ⟨a, 1, none⟩ = some v := ⟨_, cell_of_blk (hk1.at hh.blk hh.ap) 1⟩
    obtain ⟨hW, hK⟩ := hh.put hk1 hown1 hfr1 (by rw [List.length_append]; exact hfit'.out) (app_lt h.byt (num_lt 8 v)) (by rw [List.length_append]; exact hb.out) n1 hn1.out
    have hK' := (keeps_drewN (footW a o) w m).trans hK
    clear hk1' hk0 hfr1' hfr0 hown0
    go_wp2
    go_end0
    rw [lay_fits _ _ _ hfit'.out]
    exact ⟨rfl, o1, c1', hW, hfr1, hK'⟩
  · go_wp2
    go_end0
    rw [lay_long _ _ _ (by rw [hlen.out]; omega)]
    exact ⟨rfl, o, c, hW, .inl rfl, hk.mono (fun i hi => .inl hi)⟩
  · go_wp2
    go_end0
    rw [lay_err _ _ _ _ he]
    exact ⟨rfl, o, c, h, .inl rfl, Keeps.refl _ _⟩
set_option maxRecDepth 10000 in
theorem wU8_any (w : World) (a : Nat) (o : Option Addr) (c L : Nat) (bs : List Nat) (e0 : Nat) (v : Nat) (hv : v < 256) (h : IsW 266 w a o c L bs e0) (hlid : (lay L (bs, e0) (num 1 v)).1.length ≤ 140737488355328) :
    Calls Tryz.prog 145 #[.pointer (some ⟨a, 0, none⟩), .int .u8 (v : Nat)] w fun e w' => e = .returned (.tuple #[]) ∧ WStep 266 w a o L (lay L (bs, e0) (num 1 v)) w' := by
  have HLID : Hid ((lay L (bs, e0) (num 1 v)).1.length ≤ 140737488355328) := hlid
  clear hlid
  have hlen : Hid ((num 1 v).length = 1) := num_length 1 v
  go_enter Tryz.func145, Tryz.ntmps145
  go_wp2_with fail
  refine (claims_any w a o c L bs e0 1 (by omega) (by omega) h).mono ?_
  rintro e w1 (⟨rfl, hfit, rfl, m, rfl⟩ | ⟨rfl, hlong, rfl, hW, hk⟩ | ⟨he, rfl, rfl⟩)
  · have c1 : w.cell? ⟨a, 1, none⟩ = some (.slice o bs.length c) := cell_of_blk h.blk 1
    have hh : IsW 266 (w.drewN m) a o c L bs 0 := h.keeps (keeps_drewN (fun _ => False) w m) (fun _ _ h => h)
    have hfit' : Hid (bs.length + (num 1 v).length ≤ L) := by show _ ≤ _; rw [hlen.out]; omega
    have hb : Hid (bs.length + (num 1 v).length ≤ 140737488355328) := lay_lid HLID.out rfl hfit'.out
    have hb8 : bs.length + 1 ≤ 140737488355328 := by have := hb.out; rw [hlen.out] at this; exact this
    have hrow := row_lit (w.drewN m) (num 1 v) (num_lt 1 v) (by rw [num_length]; omega)
    have e1 : (vals (num 1 v)).toArray = #[.int .u8 (v : Nat)] := by simp [num, vals]; omega
    rw [e1] at hrow
    clear e1
    go_wp2_with (at_builtin; go_must (refine wpList_appB rfl _ _ rfl o _ c bs (by rfl) rfl (hh.row.alloc _) (some ⟨w.heap.size, 0, none⟩) 1 1 (num 1 v) (by rfl) (num_length 1 v).symm (by simp) hrow (by omega) ?_); rintro o1 c1' w1 hown1 hfr1' hk1'; have hb1 := hk1'.at (blk_alloc hh.blk _) hh.ap; have f1 : w1.frozen? ⟨a, 1, none⟩ = false := frozen_of_blk hb1 1; obtain ⟨v1, c1⟩ : ∃ v, w1.cell? ⟨a, 1, none⟩ = some v := ⟨_, cell_of_blk hb1 1⟩)
    go_end0
    have hk1 : Keeps (inO o) (w.drewN m) w1 := ((Keeps.refl _ _).alloc _).then hk1' (fun i h => .inl h)
    have hfr1 : Fresh w o o1 := hfr1'.old (by simp)
    obtain ⟨hW, hK⟩ := hh.put hk1 hown1 hfr1 (by rw [List.length_append]; exact hfit'.out) (app_lt h.byt (num_lt 1 v)) (by rw [List.length_append]; exact hb.out) (bs.length + 1) (by rw [List.length_append, num_length])
    have hK' := (keeps_drewN (footW a o) w m).trans hK
    rw [lay_fits _ _ _ hfit'.out]
    exact ⟨rfl, o1, c1', hW, hfr1, hK'⟩
  · go_wp2
    go_end0
    rw [lay_long _ _ _ (by rw [hlen.out]; omega)]
    exact ⟨rfl, o, c, hW, .inl rfl, hk.mono (fun i hi => .inl hi)⟩
  · go_wp2
    go_end0
    rw [lay_err _ _ _ _ he]
    exact ⟨rfl, o, c, h, .inl rfl, Keeps.refl _ _⟩
end Go.Proofs.YtdemoghlibnooaaGreatDoor
namespace Go.Proofs.YtdemoghlibnooaaGreatDoor
open Go.RowKit
open Pk
set_option linter.unusedVariables false
set_option linter.unusedSimpArgs false
def RowS (w : World) (a : Option Addr) (ss : List ByteArray) : Prop :=
  ss = [] ∨ ∃ b off, a = some ⟨b, off, none⟩ ∧ ∀ j, j < ss.length → w.cell? ⟨b, off + j, none⟩ = some (.string (ss.getD j ⟨#[]⟩))
theorem RowS.keeps {S : Nat → Prop} {w w' : World} {a : Option Addr} {ss : List ByteArray} (h : RowS w a ss) (hk : Keeps S w w') (ha : ∀ x, a = some x → ¬ S x.block) : RowS w' a ss := by
  rcases h with h | ⟨b, off, rfl, hc⟩
  · exact .inl h
  · exact .inr ⟨b, off, rfl, fun j hj => hk.cell (hc j hj) (by have := ha ⟨b, off, none⟩ rfl; exact this)⟩
def natss (ss : List ByteArray) : List (List Nat) := ss.map nats
theorem natss_snoc (ss : List ByteArray) (k : Nat) (hk : k < ss.length) : natss (ss.take (k + 1)) = natss (ss.take k) ++ [nats (ss.getD k ⟨#[]⟩)] := by
  rw [List.take_succ_eq_append_getElem hk]
  unfold natss
  rw [List.map_append]
  simp [hk]
theorem body_snoc (ss : List ByteArray) (k : Nat) (hk : k < ss.length) : bodyLen (natss (ss.take (k + 1))) = bodyLen (natss (ss.take k)) + (4 + (ss.getD k ⟨#[]⟩).size) := by
  rw [natss_snoc ss k hk, bodyLen_append]
  simp [bodyLen, nats_length]
theorem body_le (ss : List ByteArray) (k : Nat) : bodyLen (natss (ss.take k)) ≤ bodyLen (natss ss) := by
  have : natss ss = natss (ss.take k) ++ natss (ss.drop k) := by unfold natss; rw [← List.map_append, List.take_append_drop]
  rw [this, bodyLen_append]; omega
theorem getD_size (ss : List ByteArray) (hs : ∀ s ∈ ss, s.size ≤ 140737488351232) (k : Nat) (h : k < ss.length) : (ss.getD k ⟨#[]⟩).size ≤ 140737488351232 := by
  rw [List.getD_eq_getElem?_getD, List.getElem?_eq_getElem h]
  exact hs _ (List.getElem_mem h)
set_option maxRecDepth 10000 in
theorem textsSize_any (w : World) (o : Option Addr) (n c : Nat) (ss : List ByteArray) (r : Nat) (hn : n = ss.length) (hrow : RowS w o ss) (hs : ∀ s ∈ ss, s.size ≤ 140737488351232) (hlen : ss.length ≤ 140737488351232)
    (hr : r ≤ 9223372036854775807) (hM : 4 + bodyLen (natss ss) ≤ 4611686018427387904 ∨ r ≤ 4611686018427387904) :
    Calls Tryz.prog 239 #[.slice o n c, .int .i64 (r : Nat)] w fun e w' => ∃ z : Nat, e = .returned (.int .i64 (z : Nat)) ∧ z ≤ 9223372036854775807 ∧ Hid ((4 + bodyLen (natss ss) ≤ r → z = 4 + bodyLen (natss ss)) ∧ (r < 4 + bodyLen (natss ss) → r < z)) ∧ w' = w := by
  have HN : Hid (n = ss.length) := hn
  have HM : Hid (4 + bodyLen (natss ss) ≤ 4611686018427387904 ∨ r ≤ 4611686018427387904) := hM
  have HROW : Hid (RowS w o ss) := hrow
  have hln : n ≤ 140737488351232 := by omega
  clear hn hM hrow
  go_enter Tryz.func239, Tryz.ntmps239
  go_wp2_with fail
  go_loop [5, 10] (fun z i => ∃ k y : Nat, k ≤ n ∧ i = .int .i64 k ∧ z = .int .i64 (y : Nat) ∧ y = 4 + bodyLen (natss (ss.take k)) ∧ y ≤ 4611686018427387904 + 140737488355328) (fun _ i => n - (intOf i).toNat)
  case atStart => exact ⟨0, 4, by omega, rfl, rfl, by simp [natss, bodyLen], by omega⟩
  case round =>
    obtain ⟨k, y, hk, rfl, rfl, hy, hy2⟩ := hrel
    have HY : Hid (y = 4 + bodyLen (natss (ss.take k))) := hy
    clear hy
    by_cases h2 : k < n
    · have hks : k < ss.length := by have := HN.out; omega
      rcases HROW.out with h0 | ⟨b, off, rfl, hc⟩
      · rw [h0] at hks; simp at hks
      obtain ⟨s, hss⟩ : ∃ s, s = ss.getD k ⟨#[]⟩ := ⟨_, rfl⟩
      have hck := hc k hks
      have hsz := getD_size ss hs k hks
      rw [← hss] at hck hsz
      have HS : Hid (s = ss.getD k ⟨#[]⟩) := hss
      clear hss hc
      by_cases h3 : r < y
      · go_wp2
        go_ret
        refine ⟨y, rfl, by omega, ⟨fun h => ?_, fun _ => h3⟩, rfl⟩
        have := body_le ss k
        have := HY.out
        omega
      · go_wp2
        go_round
        case rel =>
          have e1 := body_snoc ss k hks
          have := HY.out
          have := body_le ss (k + 1)
          refine ⟨k + 1, y + (4 + s.size), by omega, by go_num, by go_num, by rw [e1, ← HS.out]; omega, ?_⟩
          rw [← HS.out] at e1
          rcases HM.out with h | h <;> omega
        case measure => simp [intOf]; omega
    · go_wp2
      go_ret
      obtain rfl : k = n := by omega
      have e1 := HY.out
      have e2 := HN.out
      rw [e2, List.take_length] at e1
      exact ⟨y, rfl, by omega, ⟨fun _ => e1, fun h => by omega⟩, rfl⟩
def OutTo (w : World) (bs : List Nat) (e0 : Nat) (e : Ending) (w' : World) : Prop :=
  Keeps (fun _ => False) w w' ∧ ((e0 ≠ 0 ∧ e = .returned (.tuple #[.slice none 0 0, .int .i64 (e0 : Nat)])) ∨
    (e0 = 0 ∧ ∃ o' c', e = .returned (.tuple #[.slice o' bs.length c', .int .i64 0]) ∧ Owns w' o' c' bs ∧ ∀ k, inO o' k → w.heap.size ≤ k))
set_option maxRecDepth 10000 in
theorem wOut_any (w : World) (a : Nat) (o : Option Addr) (c L : Nat) (bs : List Nat) (e0 : Nat) (h : IsW 266 w a o c L bs e0) :
    Calls Tryz.prog 149 #[.pointer (some ⟨a, 0, none⟩)] w (OutTo w bs e0) := by
  have c1 : w.cell? ⟨a, 1, none⟩ = some (.slice o bs.length c) := cell_of_blk h.blk 1
  have c2 : w.cell? ⟨a, 2, none⟩ = some (.int .i64 (e0 : Nat)) := cell_of_blk h.blk 2
  by_cases he : e0 = 0
  · subst he
    go_enter Tryz.func149, Tryz.ntmps149
    go_wp2_with fail
    match o, h with
    | none, h =>
      obtain ⟨_, rfl, rfl⟩ : _ ∧ c = 0 ∧ bs = [] := by
        rcases h.row.shape with h | ⟨g, _, h, _⟩
        · exact h
        · cases h
      refine (clone_none w).mono ?_
      rintro e w1 ⟨rfl, rfl⟩
      go_wp2
      go_ret2
      exact ⟨Keeps.refl _ _, .inr ⟨rfl, none, 0, rfl, owns_nil _, fun k ⟨x, h, _⟩ => (by cases h)⟩⟩
    | some ad, h =>
      refine (clone_some w ad bs _ c rfl (h.row.row h.byt (by have := h.lid; omega)) h.lid).mono ?_
      rintro e w1 ⟨g, c', rfl, hg, hown, hk⟩
      go_wp2
      go_ret2
      exact ⟨hk, .inr ⟨rfl, _, c', rfl, hown, fun k ⟨x, h, hx⟩ => (by cases h; subst hx; exact hg)⟩⟩
  · have he' : ¬ ((e0 : Nat) : Int) = 0 := by omega
    go_enter Tryz.func149, Tryz.ntmps149
    go_wp2
    go_quiet (fail)
    go_wp2
    go_ret2
    exact ⟨keeps_drewN _ _ _, .inl ⟨he, rfl⟩⟩
theorem txtsBody_snoc (ss : List ByteArray) (k : Nat) (hk : k < ss.length) : txtsBody (natss (ss.take (k + 1))) = txtsBody (natss (ss.take k)) ++ txt (nats (ss.getD k ⟨#[]⟩)) := by
  rw [natss_snoc ss k hk, txtsBody_append]; simp [txtsBody]
theorem txt_lt (s : ByteArray) : ∀ c ∈ txt (nats s), c < 256 := app_lt (num_lt _ _) (nats_lt s)
theorem natss_length (ss : List ByteArray) : (natss ss).length = ss.length := by simp [natss]
set_option maxRecDepth 10000 in
set_option maxHeartbeats 400000 in
theorem wTexts_any (w : World) (a : Nat) (o : Option Addr) (c L : Nat) (bs : List Nat) (e0 : Nat) (ol : Option Addr) (n cl : Nat) (ss : List ByteArray) (hn : n = ss.length) (hrow : RowS w ol ss) (hs : ∀ s ∈ ss, s.size ≤ 140737488351232) (hln : ss.length ≤ 140737488351232)
    (hap : ∀ x, ol = some x → ¬ footW a o x.block ∧ x.block < w.heap.size) (hM : 4 + bodyLen (natss ss) ≤ 4611686018427387904 ∨ L ≤ 4611686018427387904) (h : IsW 266 w a o c L bs e0) (hlid : (lay L (bs, e0) (txts (natss ss))).1.length ≤ 140737488355328) :
    Calls Tryz.prog 188 #[.pointer (some ⟨a, 0, none⟩), .slice ol n cl] w fun e w' => e = .returned (.tuple #[]) ∧ WStep 266 w a o L (lay L (bs, e0) (txts (natss ss))) w' := by
  have HLID : Hid ((lay L (bs, e0) (txts (natss ss))).1.length ≤ 140737488355328) := hlid
  have HLEN : Hid ((txts (natss ss)).length = 4 + bodyLen (natss ss)) := txts_length _
  have HM : Hid (4 + bodyLen (natss ss) ≤ 4611686018427387904 ∨ L - bs.length ≤ 4611686018427387904) := by
    rcases hM with h | h
    · exact .inl h
    · exact .inr (by omega)
  have HN : Hid (n = ss.length) := hn
  have HNN : n ≤ 140737488351232 := by omega
  clear hlid hM hn
  have hlim := h.lim
  have hfit0 := h.fit
  go_enter Tryz.func188, Tryz.ntmps188
  go_wp2_with fail
  refine (room_any w a o c L bs e0 h).mono ?_
  rintro e w1 ⟨rfl, m1, rfl⟩
  go_wp2_with fail
  refine (textsSize_any (w.drewN m1) ol n cl ss (L - bs.length) HN.out (hrow.keeps (keeps_drewN (fun _ => False) w m1) (fun _ _ h => h)) hs hln (by omega) HM.out).mono ?_
  rintro e w1 ⟨z, rfl, hz, HZ, rfl⟩
  have h1 : IsW 266 (w.drewN m1) a o c L bs e0 := h.keeps (keeps_drewN (fun _ => False) w m1) (fun _ _ h => h)
  go_wp2_with fail
  refine (claims_any (w.drewN m1) a o c L bs e0 z (by omega) (by omega) h1).mono ?_
  rintro e w1 (⟨rfl, hfit, rfl, m, rfl⟩ | ⟨rfl, hlong, rfl, hW, hk⟩ | ⟨he, rfl, rfl⟩)
  · have hh : IsW 266 (w.drewN (m1 + m)) a o c L bs 0 := h.keeps (keeps_drewN (fun _ => False) _ _) (fun _ _ h => h)
    have hfit' : Hid (bs.length + (txts (natss ss)).length ≤ L) := by
      have := HZ.out
      show _ ≤ _; rw [HLEN.out]; omega
    have hb : Hid (bs.length + (txts (natss ss)).length ≤ 140737488355328) := lay_lid HLID.out rfl hfit'.out
    have c1 : w.cell? ⟨a, 1, none⟩ = some (.slice o bs.length c) := cell_of_blk h.blk 1
    have HK : Hid (Keeps (footW a o) w (w.drewN (m1 + m))) := keeps_drewN _ _ _
    have hb4 : bs.length + 4 ≤ 140737488355328 := by have := hb.out; rw [HLEN.out] at this; omega
    have hb5 : bs.length + 4 ≤ L := by have := hfit'.out; rw [HLEN.out] at this; omega
    go_wp2_with fail
    have HN' := HN.out
    rw [show ((n : Int) % 4294967296) = ((n % 4294967296 : Nat) : Int) by omega]
    refine (appendU32_any (w.drewN (m1 + m)) o _ c bs (n % 4294967296) (by omega) rfl hh.row (by omega)).mono ?_
    rintro e w1 ⟨o1, c1', n1, rfl, hn1, hown1, hfr1, hk1⟩
    rw [num4_mod] at hown1 hn1
    clear HN'
    have f1 : w1.frozen? ⟨a, 1, none⟩ = false := frozen_of_blk (hk1.at hh.blk hh.ap) 1
    obtain ⟨v1, c1⟩ : ∃ v, w1.cell? ⟨a, 1, none⟩ = some v := ⟨_, cell_of_blk (hk1.at hh.blk hh.ap) 1⟩
    have hl4 : (bs ++ num 4 n).length = bs.length + 4 := by rw [List.length_append, num_length]
    obtain ⟨hW, hK⟩ := hh.put hk1 hown1 hfr1 (by rw [hl4]; exact hb5) (app_lt h.byt (num_lt 4 n)) (by rw [hl4]; exact hb4) n1 hn1.out
    have HK2 : Hid (Keeps (footW a o) w (w1.setCell ⟨a, 1, none⟩ (.slice o1 n1 c1'))) := HK.out.trans hK
    have HF : Hid (Fresh w o o1) := hfr1
    clear hl4 hk1 hown1 hfr1 hK hh h1
    go_wp2_with fail
    go_loopw [26] (fun i wr => ∃ k : Nat, ∃ oo cc, k ≤ n ∧ i = .int .i64 k ∧ IsW 266 wr a oo cc L (bs ++ num 4 n ++ txtsBody (natss (ss.take k))) 0 ∧ Fresh w o oo ∧ Keeps (footW a o) w wr) (fun i _ => n - (intOf i).toNat)
    case atStart => exact ⟨0, o1, c1', by omega, rfl, by simpa [natss, txtsBody] using hW, HF.out, HK2.out⟩
    case round =>
      obtain ⟨k, oo, cc, hk, rfl, hWr, hFr, hKr⟩ := hrel
      by_cases h2 : k < n
      · have hks : k < ss.length := by have := HN.out; omega
        have hrr : RowS wr ol ss := hrow.keeps hKr (fun x hx => (hap x hx).1)
        rcases hrr with h0 | ⟨b, off, rfl, hc⟩
        · rw [h0] at hks; simp at hks
        obtain ⟨s, hss⟩ : ∃ s, s = ss.getD k ⟨#[]⟩ := ⟨_, rfl⟩
        have hck := hc k hks
        have hsz := getD_size ss hs k hks
        have hbs := txtsBody_snoc ss k hks
        have hlens := body_snoc ss k hks
        rw [← hss] at hck hsz hbs hlens
        have HBS : Hid (txtsBody (natss (ss.take (k + 1))) = txtsBody (natss (ss.take k)) ++ txt (nats s)) := hbs
        have hbl := body_le ss (k + 1)
        have hX1 : (bs ++ num 4 n ++ txtsBody (natss (ss.take k))).length = bs.length + 4 + bodyLen (natss (ss.take k)) := by rw [List.length_append, List.length_append, num_length, txtsBody_length]
        have hbL : bs.length + 4 + bodyLen (natss ss) ≤ L := by have := hfit'.out; rw [HLEN.out] at this; omega
        have hbB : bs.length + 4 + bodyLen (natss ss) ≤ 140737488355328 := by have := hb.out; rw [HLEN.out] at this; omega
        obtain ⟨X, hX⟩ : ∃ X, X = bs ++ num 4 n ++ txtsBody (natss (ss.take k)) := ⟨_, rfl⟩
        rw [← hX] at hWr hX1
        have HX : Hid (X = bs ++ num 4 n ++ txtsBody (natss (ss.take k))) := hX
        have HB1 : Hid (X.length + 4 + s.size ≤ L) := by show _ ≤ _; omega
        have HB2 : Hid (X.length + 4 + s.size ≤ 140737488355328) := by show _ ≤ _; omega
        clear hss hbs hlens hbl hX1 hX hbL hbB hc
        have c1 : wr.cell? ⟨a, 1, none⟩ = some (.slice oo X.length cc) := cell_of_blk hWr.blk 1
        go_wp2_with fail
        refine (appendText_any wr oo _ cc X s rfl hWr.row HB2.out).mono ?_
        rintro e w2 ⟨o2, c2', n2, rfl, hn2, hown2, hfr2, hk2⟩
        have f1 : w2.frozen? ⟨a, 1, none⟩ = false := frozen_of_blk (hk2.at hWr.blk hWr.ap) 1
        obtain ⟨v1, c1⟩ : ∃ v, w2.cell? ⟨a, 1, none⟩ = some v := ⟨_, cell_of_blk (hk2.at hWr.blk hWr.ap) 1⟩
        have hl4 : (X ++ txt (nats s)).length = X.length + 4 + s.size := by rw [List.length_append, txt_length, nats_length]; omega
        obtain ⟨hW2, hK2⟩ := hWr.put hk2 hown2 hfr2 (by rw [hl4]; exact HB1.out) (app_lt hWr.byt (txt_lt s)) (by rw [hl4]; exact HB2.out) n2 hn2.out
        clear hl4
        go_wp2_with fail
        go_roundw
        case rel =>
          refine ⟨k + 1, o2, c2', by omega, by go_num, ?_, hFr.trans hfr2 hKr.size, hKr.then hK2 ?_⟩
          · rw [HBS.out, ← List.append_assoc, ← HX.out]; exact hW2
          · rintro i (rfl | hi)
            · exact .inl (.inl rfl)
            · rcases hFr.in i hi with h' | h'
              · exact .inl (.inr h')
              · exact .inr h'
        case measure => simp [intOf]; omega
      · go_wp2_with fail
        go_end0
        obtain rfl : k = n := by omega
        rw [lay_fits _ _ _ hfit'.out]
        have e2 := HN.out
        rw [e2, List.take_length] at hWr
        refine ⟨rfl, oo, cc, ?_, hFr, hKr⟩
        show IsW 266 wr a oo cc L (bs ++ txts (natss ss)) 0
        rw [txts, natss_length, ← List.append_assoc]
        exact hWr
  · go_wp2
    refine bodyPost_ret (results_none rfl _ _ _) rfl ?_
    rw [lay_long _ _ _ (by have := HZ.out; rw [HLEN.out]; omega)]
    exact ⟨rfl, o, c, hW, .inl rfl, (keeps_drewN _ _ _).trans (hk.mono (fun i hi => .inl hi))⟩
  · go_wp2
    refine bodyPost_ret (results_none rfl _ _ _) rfl ?_
    rw [lay_err _ _ _ _ he]
    exact ⟨rfl, o, c, h1, .inl rfl, keeps_drewN _ _ _⟩
end Go.Proofs.YtdemoghlibnooaaGreatDoor
namespace Go.Proofs.YtdemoghlibnooaaGreatDoor
open Go.RowKit
open Pk
set_option linter.unusedVariables false
set_option linter.unusedSimpArgs false
theorem getD_lt (bs : List Nat) (hby : ∀ c ∈ bs, c < 256) (k : Nat) (h : k < bs.length) : bs.getD k 0 < 256 := by
  rw [List.getD_eq_getElem?_getD, List.getElem?_eq_getElem h]
  exact hby _ (List.getElem_mem h)
theorem val_snoc (bs : List Nat) (k : Nat) (h : k < bs.length) : val (bs.take (k + 1)) = val (bs.take k) * 256 + bs.getD k 0 := by
  rw [List.take_succ_eq_append_getElem h, val_append]
  simp [List.getD_eq_getElem?_getD, h]
theorem val_take_lt (bs : List Nat) (hby : ∀ c ∈ bs, c < 256) (k : Nat) (hk : k ≤ bs.length) : val (bs.take k) < 256 ^ k := by
  have := val_lt (bs.take k) (fun c hc => hby c (List.mem_of_mem_take hc))
  rwa [List.length_take, Nat.min_eq_left hk] at this
theorem or_num (r x : Nat) (hr : r < 72057594037927936) (hx : x < 256) : bits .or .u64 ((r : Int) * 256) (x : Int) = ((r * 256 + x : Nat) : Int) := by
  have e : ((r : Int) * 256) = ((r * 256 : Nat) : Int) := by omega
  rw [e, u64_or_nat _ _ (by omega) (by omega)]
  have := Nat.two_pow_add_eq_or_of_lt (i := 8) (b := x) (by omega) r
  rw [show r * 256 = 2 ^ 8 * r by omega, ← this]
set_option maxRecDepth 10000 in
theorem numberAt_any (w : World) (o : Option Addr) (n c : Nat) (bs : List Nat) (hn : n = bs.length) (hrow : BRow w o bs) (h8 : bs.length ≤ 8) :
    Calls Tryz.prog 261 #[.slice o n c] w fun e w' => e = .returned (.int .u64 (val bs : Nat)) ∧ w' = w := by
  obtain ⟨hby, hm, hcell⟩ := hrow
  have HN : Hid (n = bs.length) := hn
  have hn8 : n ≤ 8 := by omega
  clear hn h8 hm
  go_enter Tryz.func261, Tryz.ntmps261
  go_wp2_with fail
  go_loop [3, 8] (fun r i => ∃ k : Nat, k ≤ n ∧ i = .int .i64 k ∧ r = .int .u64 (val (bs.take k) : Nat)) (fun _ i => n - (intOf i).toNat)
  case atStart => exact ⟨0, by omega, rfl, by simp [val]⟩
  case round =>
    obtain ⟨k, hk, rfl, rfl⟩ := hrel
    by_cases h2 : k < n
    · have hkb : k < bs.length := by have := HN.out; omega
      have hcl := getD_lt bs hby k hkb
      have hsn := val_snoc bs k hkb
      have hvl := val_take_lt bs hby k (by omega)
      have hp : 256 ^ k ≤ 72057594037927936 := by
        have : 256 ^ k ≤ 256 ^ 7 := Nat.pow_le_pow_right (by decide) (by omega)
        simpa using this
      rcases hcell with h0 | ⟨b, off, rfl, hc⟩
      · rw [h0] at hkb; simp at hkb
      obtain ⟨x, hcc⟩ : ∃ x, x = bs.getD k 0 := ⟨_, rfl⟩
      obtain ⟨r, hr⟩ : ∃ r, r = val (bs.take k) := ⟨_, rfl⟩
      have hck := hc k hkb
      rw [← hcc] at hcl hsn hck
      rw [← hr] at hsn hvl ⊢
      have HS : Hid (val (bs.take (k + 1)) = r * 256 + x) := hsn
      have hr7 : r < 72057594037927936 := by omega
      have hor := or_num r x hr7 hcl
      clear hsn hcc hc hby hr hvl hp
      go_wp2_with fail
      go_round
      case rel => exact ⟨k + 1, by omega, by go_num, by rw [HS.out]; go_num⟩
      case measure => simp [intOf]; omega
    · go_wp2_with fail
      go_ret
      obtain rfl : k = n := by omega
      rw [HN.out, List.take_length]
      exact ⟨rfl, rfl⟩
structure BSl (w : World) (o : Option Addr) (c : Nat) (bs : List Nat) : Prop where
  row : BRow w o bs
  cap : bs.length ≤ c
  nil : o = none → c = 0
def BSub (o o' : Option Addr) : Prop := ∀ x, o' = some x → ∃ y, o = some y ∧ x.block = y.block
theorem BSub.refl (o : Option Addr) : BSub o o := fun x hx => ⟨x, hx, rfl⟩
theorem BSub.trans {a b c : Option Addr} (h : BSub a b) (k : BSub b c) : BSub a c := fun x hx => by
  obtain ⟨y, hy, e⟩ := k x hx
  obtain ⟨z, hz, e'⟩ := h y hy
  exact ⟨z, hz, e.trans e'⟩
theorem BSub.in {a b : Option Addr} (h : BSub a b) : ∀ k, inO b k → inO a k := by
  rintro k ⟨x, hx, rfl⟩
  obtain ⟨y, hy, e⟩ := h x hx
  exact ⟨y, hy, e.symm⟩
theorem BSl.keeps {S : Nat → Prop} {w w' : World} {a : Option Addr} {c : Nat} {bs : List Nat} (h : BSl w a c bs) (hk : Keeps S w w') (ha : ∀ k, inO a k → ¬ S k) : BSl w' a c bs :=
  ⟨h.row.keeps hk (fun x hx => ha x.block ⟨x, hx, rfl⟩), h.cap, h.nil⟩
theorem BSl.drewN {w : World} {a : Option Addr} {c : Nat} {bs : List Nat} (h : BSl w a c bs) (m : Nat) : BSl (w.drewN m) a c bs := h.keeps (keeps_drewN (fun _ => False) w m) (fun _ _ h => h)
theorem slB : Tryz.prog.underlying 29 = some (.slice (Tryz.prog.elem 29)) := by kernel_rfl
theorem cut_h (w0 : World) (o : Option Addr) (c : Nat) (bs : List Nat) (n I : Nat) (i : Int) (hi : i = (I : Nat)) (hn : n = bs.length) (hI : I ≤ n) (h : BSl w0 o c bs) :
    ∃ A d, (∀ w, (Instr.slice 29 (.slice o n c) none (some (.int .i64 i)) none).run Tryz.prog w = .ok (.slice A I d) w) ∧ BSl w0 A d (bs.take I) ∧ BSub o A := by
  subst hi hn
  have hcap := h.cap
  match o, h with
  | none, h =>
    obtain rfl : c = 0 := h.nil rfl
    obtain rfl : I = 0 := by omega
    have h0 : bs = [] := List.length_eq_zero_iff.mp (by omega)
    subst h0
    refine ⟨none, 0, fun w => ?_, ⟨h.row.take 0, by simp, fun _ => rfl⟩, BSub.refl _⟩
    rw [run_slice_h w 29 none _ 0 slB .i64 _ (by omega) (by omega)]
    go_simp
  | some ad, h =>
    refine ⟨some ad, c, fun w => ?_, ⟨h.row.take I, by rw [List.length_take]; omega, h.nil⟩, BSub.refl _⟩
    rw [run_slice_h w 29 (some ad) _ c slB .i64 _ (by omega) (by omega)]
    go_simp
theorem cut_l (w0 : World) (o : Option Addr) (c : Nat) (bs : List Nat) (n I : Nat) (i : Int) (hi : i = (I : Nat)) (hn : n = bs.length) (hI : I ≤ n) (h : BSl w0 o c bs) :
    ∃ A d, (∀ w, (Instr.slice 29 (.slice o n c) (some (.int .i64 i)) none none).run Tryz.prog w = .ok (.slice A (n - I) d) w) ∧ BSl w0 A d (bs.drop I) ∧ BSub o A := by
  subst hi hn
  have hcap := h.cap
  match o, h with
  | none, h =>
    obtain rfl : c = 0 := h.nil rfl
    obtain rfl : I = 0 := by omega
    have h0 : bs = [] := List.length_eq_zero_iff.mp (by omega)
    subst h0
    refine ⟨none, 0, fun w => ?_, ⟨h.row.drop 0 (fun _ b off e => by cases e), by simp, fun _ => rfl⟩, BSub.refl _⟩
    rw [run_slice_l w 29 none _ 0 slB .i64 _ (by omega) (by simp)]
    go_simp
  | some ad, h =>
    refine ⟨some (if c = I then ad else ad.add I), c - I, fun w => ?_, ⟨h.row.drop I (fun hlt b off e => ?_), by rw [List.length_drop]; omega, by simp⟩, ?_⟩
    · rw [run_slice_l w 29 (some ad) _ c slB .i64 _ (by omega) (by omega)]
      by_cases h : c = I
      · go_simp
      · go_simp
    · cases e
      rw [if_neg (by omega), addr_add]
    · intro x hx
      refine ⟨ad, rfl, ?_⟩
      cases hx
      split
      · rfl
      · obtain ⟨b, off, sp⟩ := ad
        simp [Addr.add]
        split <;> rfl
structure IsR (t : Nat) (w : World) (a : Nat) (o : Option Addr) (c : Nat) (bs : List Nat) (e : Nat) : Prop where
  blk : w.heap[a]? = some (.cells #[.slice o bs.length c, .int .i64 (e : Nat)] t (0, 0))
  sl : BSl w o c bs
  ap : ¬ inO o a
  live : ∀ k, inO o k → k < w.heap.size
  lid : bs.length ≤ 140737488355328
  er : e ≤ 5
theorem IsR.keeps {S : Nat → Prop} {t : Nat} {w w' : World} {a : Nat} {o : Option Addr} {c : Nat} {bs : List Nat} {e : Nat} (h : IsR t w a o c bs e) (hk : Keeps S w w') (h1 : ∀ k, footW a o k → ¬ S k) : IsR t w' a o c bs e :=
  ⟨hk.at h.blk (h1 a (.inl rfl)), h.sl.keeps hk (fun k hk => h1 k (.inr hk)), h.ap, fun k hh => Nat.lt_of_lt_of_le (h.live k hh) hk.size, h.lid, h.er⟩
theorem IsR.drewN {t : Nat} {w : World} {a : Nat} {o : Option Addr} {c : Nat} {bs : List Nat} {e : Nat} (h : IsR t w a o c bs e) (m : Nat) : IsR t (w.drewN m) a o c bs e := h.keeps (keeps_drewN (fun _ => False) w m) (fun _ _ h => h)
def RStep (t : Nat) (w : World) (a : Nat) (o : Option Addr) (st : RS) (w' : World) : Prop :=
  ∃ o' c', IsR t w' a o' c' st.1 st.2 ∧ BSub o o' ∧ Keeps (fun k => k = a) w w'
theorem IsR.put {t : Nat} {w : World} {a : Nat} {o o1 : Option Addr} {c c1 : Nat} {bs bs1 : List Nat} {e : Nat} (h : IsR t w a o c bs e) (hs : BSl w o1 c1 bs1) (hsub : BSub o o1) (hlid : bs1.length ≤ 140737488355328) (n1 : Nat) (hn1 : n1 = bs1.length) :
    IsR t (w.setCell ⟨a, 0, none⟩ (.slice o1 n1 c1)) a o1 c1 bs1 e ∧ Keeps (fun k => k = a) w (w.setCell ⟨a, 0, none⟩ (.slice o1 n1 c1)) := by
  subst hn1
  have hap : ¬ inO o1 a := fun hin => h.ap (hsub.in a hin)
  have hkk : Keeps (fun k => k = a) w (w.setCell ⟨a, 0, none⟩ (.slice o1 bs1.length c1)) := keeps_set _ _ _ _
  refine ⟨⟨?_, hs.keeps hkk (fun k hk e => hap (e ▸ hk)), hap, fun k hk => ?_, hlid, h.er⟩, hkk⟩
  · rw [blk_set h.blk]; rfl
  · rw [World.size_setCell]; exact h.live k (hsub.in k hk)
theorem IsR.err {t : Nat} {w : World} {a : Nat} {o : Option Addr} {c : Nat} {bs : List Nat} {e : Nat} (h : IsR t w a o c bs e) (e1 : Nat) (he : e1 ≤ 5) :
    IsR t (w.setCell ⟨a, 1, none⟩ (.int .i64 (e1 : Nat))) a o c bs e1 ∧ Keeps (fun k => k = a) w (w.setCell ⟨a, 1, none⟩ (.int .i64 (e1 : Nat))) := by
  have hkk : Keeps (fun k => k = a) w (w.setCell ⟨a, 1, none⟩ (.int .i64 (e1 : Nat))) := keeps_set _ _ _ _
  refine ⟨⟨?_, h.sl.keeps hkk (fun k hk e => h.ap (e ▸ hk)), h.ap, fun k hk => ?_, h.lid, he⟩, hkk⟩
  · rw [blk_set h.blk]; rfl
  · rw [World.size_setCell]; exact h.live k hk
theorem newReader_any (w : World) (o : Option Addr) (n c : Nat) (bs : List Nat) (hn : n = bs.length) (h : BSl w o c bs) (hlid : bs.length ≤ 140737488355328) :
    Calls Tryz.prog 153 #[.slice o n c] w fun e w' => ∃ a o' c', e = .returned (.pointer (some ⟨a, 0, none⟩)) ∧ IsR 274 w' a o' c' bs 0 ∧ (∀ k, footW a o' k → w.heap.size ≤ k) ∧ Keeps (fun _ => False) w w' := by
  subst hn
  match o, h with
  | none, h =>
    obtain rfl : c = 0 := h.nil rfl
    have h0 : bs = [] := List.length_eq_zero_iff.mp (by have := h.cap; omega)
    subst h0
    go_enter Tryz.func153, Tryz.ntmps153
    go_wp2_with fail
    refine (clone_none w).mono ?_
    rintro e w1 ⟨rfl, rfl⟩
    go_wp2
    go_ret
    refine ⟨w1.heap.size, none, 0, rfl, ⟨blk_new _ _, ⟨⟨by simp, by simp, .inl rfl⟩, by simp, fun _ => rfl⟩, fun ⟨x, h, _⟩ => (by cases h), fun k ⟨x, h, _⟩ => (by cases h), by simp, by simp⟩, ?_, (Keeps.refl _ _).alloc _⟩
    rintro k (rfl | ⟨x, h, _⟩)
    · omega
    · cases h
  | some ad, h =>
    go_enter Tryz.func153, Tryz.ntmps153
    go_wp2_with fail
    refine (clone_some w ad bs _ c rfl h.row hlid).mono ?_
    rintro e w1 ⟨g, c', rfl, hg, hown, hk⟩
    go_wp2
    go_ret
    have hgl := hown.lt g ⟨_, rfl, rfl⟩
    have hsz := hk.size
    refine ⟨w1.heap.size, some ⟨g, 0, none⟩, c', rfl, ⟨blk_new _ _, ⟨(hown.alloc _).row h.row.1 h.row.2.1, hown.cap.1, fun h => (by cases h)⟩, ?_, ?_, hlid, by simp⟩, ?_, hk.alloc _⟩
    · rintro ⟨x, hx, e⟩
      cases hx; simp at e; omega
    · rintro k ⟨x, hx, e⟩
      cases hx; subst e; simp; omega
    · rintro k (rfl | ⟨x, hx, e⟩)
      · omega
      · cases hx; subst e; exact hg
set_option maxRecDepth 10000 in
theorem number_any (w : World) (a : Nat) (o : Option Addr) (c : Nat) (bs : List Nat) (e0 : Nat) (I : Nat) (hI8 : I ≤ 8) (h : IsR 274 w a o c bs e0) :
    Calls Tryz.prog 242 #[.pointer (some ⟨a, 0, none⟩), .int .i64 (I : Nat)] w fun e w' => e = .returned (.int .u64 ((rnum I (bs, e0)).1 : Nat)) ∧ RStep 274 w a o (rnum I (bs, e0)).2 w' := by
  have c0 : w.cell? ⟨a, 0, none⟩ = some (.slice o bs.length c) := cell_of_blk h.blk 0
  have c1 : w.cell? ⟨a, 1, none⟩ = some (.int .i64 (e0 : Nat)) := cell_of_blk h.blk 1
  have f0 : w.frozen? ⟨a, 0, none⟩ = false := frozen_of_blk h.blk 0
  have f1 : w.frozen? ⟨a, 1, none⟩ = false := frozen_of_blk h.blk 1
  have hlid := h.lid
  by_cases he : e0 = 0
  · subst he
    by_cases hs : bs.length < I
    · go_enter Tryz.func242, Tryz.ntmps242
      go_wp2
      go_ret
      obtain ⟨h4, hk4⟩ := h.err 4 (by omega)
      have er : rnum I (bs, 0) = (0, (bs, 4)) := by simp [rnum, hs]
      rw [er]
      exact ⟨rfl, o, c, h4, BSub.refl _, hk4⟩
    · obtain ⟨A, d, hcut, hsl, hsub⟩ := cut_h w o c bs bs.length I I rfl rfl (by omega) h.sl
      obtain ⟨A', d', hcut', hsl', hsub'⟩ := cut_l w o c bs bs.length I I rfl rfl (by omega) h.sl
      have HSL : Hid (BSl w A d (bs.take I)) := hsl
      clear hsl
      go_enter Tryz.func242, Tryz.ntmps242
      go_wp2_with fail
      refine (numberAt_any w A I d (bs.take I) (by rw [List.length_take]; omega) HSL.out.row (by rw [List.length_take]; omega)).mono ?_
      rintro e w1 ⟨rfl, rfl⟩
      go_wp2
      go_ret
      obtain ⟨hW, hK⟩ := h.put hsl' hsub' (by rw [List.length_drop]; omega) (bs.length - I) (by rw [List.length_drop])
      have er : rnum I (bs, 0) = (val (bs.take I), (bs.drop I, 0)) := by simp [rnum, hs]
      rw [er]
      exact ⟨rfl, A', d', hW, hsub', hK⟩
  · have he' : ¬ ((e0 : Nat) : Int) = 0 := by omega
    go_enter Tryz.func242, Tryz.ntmps242
    go_wp2
    go_ret
    have er : rnum I (bs, e0) = (0, (bs, e0)) := by simp [rnum, he]
    rw [er]
    exact ⟨rfl, o, c, h, BSub.refl _, Keeps.refl _ _⟩
end Go.Proofs.YtdemoghlibnooaaGreatDoor
namespace Go.Proofs.YtdemoghlibnooaaGreatDoor
open Go.RowKit
open Pk
set_option linter.unusedVariables false
set_option linter.unusedSimpArgs false
theorem rnum_lt (k : Nat) (bs : List Nat) (e : Nat) (h : ∀ c ∈ bs, c < 256) : (rnum k (bs, e)).1 < 256 ^ k := by
  unfold rnum
  have hp : 0 < 256 ^ k := Nat.pow_pos (by decide)
  split
  · exact hp
  · split
    · exact hp
    · exact val_take_lt bs h k (by simp at *; omega)
theorem rU64_any (w : World) (a : Nat) (o : Option Addr) (c : Nat) (bs : List Nat) (e0 : Nat) (h : IsR 274 w a o c bs e0) :
    Calls Tryz.prog 194 #[.pointer (some ⟨a, 0, none⟩)] w fun e w' => e = .returned (.int .u64 ((rnum 8 (bs, e0)).1 : Nat)) ∧ RStep 274 w a o (rnum 8 (bs, e0)).2 w' := by
  go_enter Tryz.func194, Tryz.ntmps194
  go_wp2_with fail
  refine (number_any w a o c bs e0 8 (by omega) h).mono ?_
  rintro e w1 ⟨rfl, hst⟩
  go_wp2
  go_ret
  exact ⟨rfl, hst⟩
theorem rU32_any (w : World) (a : Nat) (o : Option Addr) (c : Nat) (bs : List Nat) (e0 : Nat) (h : IsR 274 w a o c bs e0) :
    Calls Tryz.prog 192 #[.pointer (some ⟨a, 0, none⟩)] w fun e w' => e = .returned (.int .u32 ((rnum 4 (bs, e0)).1 : Nat)) ∧ RStep 274 w a o (rnum 4 (bs, e0)).2 w' := by
  have hb := rnum_lt 4 bs e0 h.sl.row.1
  go_enter Tryz.func192, Tryz.ntmps192
  go_wp2_with (go_at_call 242; go_must (refine (number_any _ a o c bs e0 4 (by omega) h).mono ?_); rintro e w' ⟨rfl, hr⟩)
  go_ret
  exact ⟨by congr 2, hr⟩
theorem rU8_any (w : World) (a : Nat) (o : Option Addr) (c : Nat) (bs : List Nat) (e0 : Nat) (h : IsR 274 w a o c bs e0) :
    Calls Tryz.prog 193 #[.pointer (some ⟨a, 0, none⟩)] w fun e w' => e = .returned (.int .u8 ((rnum 1 (bs, e0)).1 : Nat)) ∧ RStep 274 w a o (rnum 1 (bs, e0)).2 w' := by
  have hlt : (rnum 1 (bs, e0)).1 < 256 := rnum_lt 1 bs e0 h.sl.row.1
  go_enter Tryz.func193, Tryz.ntmps193
  go_wp2_with fail
  refine (number_any w a o c bs e0 1 (by omega) h).mono ?_
  rintro e w1 ⟨rfl, hst⟩
  go_wp2
  go_ret
  exact ⟨rfl, hst⟩
def rend (bs : List Nat) (e0 : Nat) : Nat := if e0 = 0 ∧ 0 < bs.length then 5 else e0
theorem rEnd_any (w : World) (a : Nat) (o : Option Addr) (c : Nat) (bs : List Nat) (e0 : Nat) (h : IsR 274 w a o c bs e0) :
    Calls Tryz.prog 157 #[.pointer (some ⟨a, 0, none⟩)] w fun e w' => e = .returned (.int .i64 (rend bs e0 : Nat)) ∧ w' = w := by
  have c0 : w.cell? ⟨a, 0, none⟩ = some (.slice o bs.length c) := cell_of_blk h.blk 0
  have c1 : w.cell? ⟨a, 1, none⟩ = some (.int .i64 (e0 : Nat)) := cell_of_blk h.blk 1
  by_cases he : e0 = 0
  · subst he
    by_cases hl : 0 < bs.length
    · go_enter Tryz.func157, Tryz.ntmps157
      go_wp2
      go_ret
      rw [rend, if_pos ⟨rfl, hl⟩]
      exact ⟨rfl, rfl⟩
    · go_enter Tryz.func157, Tryz.ntmps157
      go_wp2
      go_ret
      rw [rend, if_neg (by omega)]
      exact ⟨rfl, rfl⟩
  · have he' : ¬ ((e0 : Nat) : Int) = 0 := by omega
    go_enter Tryz.func157, Tryz.ntmps157
    go_wp2
    go_ret
    rw [rend, if_neg (by omega)]
    exact ⟨rfl, rfl⟩
def CntTo (w : World) (o : Option Addr) (bs : List Nat) (most : Int) (e : Ending) (w' : World) : Prop :=
  (∃ m, w' = w.drewN m) ∧
  ((∃ er, Hid (ccount bs most = (0, bs, er)) ∧ 0 < er ∧ er ≤ 5 ∧ e = .returned (.tuple #[.int .i64 0, .slice none 0 0, .int .i64 (er : Nat)])) ∨
   (∃ v o' c' n', Hid (ccount bs most = (v, bs.drop 4, 0)) ∧ v < 4294967296 ∧ e = .returned (.tuple #[.int .i64 (v : Nat), .slice o' n' c', .int .i64 0]) ∧ Hid (n' = (bs.drop 4).length) ∧ n' ≤ 140737488355328 ∧ BSl w o' c' (bs.drop 4) ∧ BSub o o'))
set_option maxRecDepth 10000 in
theorem cutCount_any (w : World) (o : Option Addr) (n c : Nat) (bs : List Nat) (most : Int) (hn : n = bs.length) (h : BSl w o c bs) (hlid : bs.length ≤ 140737488355328) (hm1 : -9223372036854775808 ≤ most) (hm2 : most ≤ 9223372036854775807) :
    Calls Tryz.prog 243 #[.slice o n c, .int .i64 most] w (CntTo w o bs most) := by
  subst hn
  by_cases hs : bs.length < 4
  · go_enter Tryz.func243, Tryz.ntmps243
    go_wp2
    go_ret3
    exact ⟨⟨0, rfl⟩, .inl ⟨4, by show _ = _; simp [ccount, hs], by omega, by omega, rfl⟩⟩
  · obtain ⟨A, d, hcut, hsl, hsub⟩ := cut_h w o c bs bs.length 4 4 rfl rfl (by omega) h
    obtain ⟨A', d', hcut', hsl', hsub'⟩ := cut_l w o c bs bs.length 4 4 rfl rfl (by omega) h
    have hvl : val (bs.take 4) < 4294967296 := val_take_lt bs h.row.1 4 (by omega)
    have HSL : Hid (BSl w A d (bs.take 4)) := hsl
    have HSL' : Hid (BSl w A' d' (bs.drop 4)) := hsl'
    have HSUB' : Hid (BSub o A') := hsub'
    clear hsl hsl' hsub hsub'
    obtain ⟨v, hv⟩ : ∃ v, v = val (bs.take 4) := ⟨_, rfl⟩
    rw [← hv] at hvl
    have HV : Hid (v = val (bs.take 4)) := hv
    go_enter Tryz.func243, Tryz.ntmps243
    go_wp2_with fail
    refine (numberAt_any w A 4 d (bs.take 4) (by rw [List.length_take]; omega) HSL.out.row (by rw [List.length_take]; omega)).mono ?_
    rw [← hv]
    clear hv
    rintro e w1 ⟨rfl, rfl⟩
    by_cases hl : most.toNat < v
    · have hl1 : max most 0 < (v : Int) := by omega
      have hl2 : 0 ≤ max most 0 := by omega
      go_wp2
      go_ret3
      exact ⟨⟨0, rfl⟩, .inl ⟨3, by show _ = _; rw [HV.out] at hl; simp [ccount, hs, hl], by omega, by omega, rfl⟩⟩
    · have hl1 : ¬ max most 0 < (v : Int) := by omega
      have hl2 : 0 ≤ max most 0 := by omega
      go_wp2
      go_quiet (fail)
      go_wp2
      go_ret3
      refine ⟨⟨_, rfl⟩, .inr ⟨v, A', d', bs.length - 4, by show _ = _; rw [HV.out] at hl; simp [ccount, hs, hl, HV.out], hvl, rfl, by show _ = _; rw [List.length_drop], by omega, HSL'.out, HSUB'.out⟩⟩
end Go.Proofs.YtdemoghlibnooaaGreatDoor
namespace Go.Proofs.YtdemoghlibnooaaGreatDoor
open Go.RowKit
open Pk
set_option linter.unusedVariables false
set_option linter.unusedSimpArgs false
def text (bs : List Nat) : ByteArray := ⟨(bs.map UInt8.ofNat).toArray⟩
theorem nats_text (bs : List Nat) (h : ∀ c ∈ bs, c < 256) : nats (text bs) = bs := by
  unfold nats text
  rw [List.toList_toArray, List.map_map]
  conv => rhs; rw [← List.map_id bs]
  apply List.map_congr_left
  intro c hc
  have := h c hc
  simp [UInt8.toNat_ofNat']
  omega
theorem foldl_push (ns : List Int) : ∀ (s : ByteArray), ns.foldl (fun r n => r.push (UInt8.ofNat n.toNat)) s = ⟨s.data ++ (ns.map fun n => UInt8.ofNat n.toNat).toArray⟩ := by
  induction ns with
  | nil => intro s; simp
  | cons n ns ih =>
    intro s
    rw [List.foldl_cons, ih]
    simp [ByteArray.push]
theorem run_text (w : World) (a : Option Addr) (bs : List Nat) (n cap : Nat) (hn : n = bs.length) (hr : BRow w a bs) :
    (convert 29 9 (.slice a n cap)).run Tryz.prog w = .ok (.string (text bs)) w := by
  subst hn
  rw [run_convert_bytes_string w 29 9 5 a bs.length cap Tryz.underlying29 Tryz.underlying5 Tryz.underlying9]
  match a, hr with
  | none, hr =>
    obtain rfl : bs = [] := by rcases hr.2.2 with h | ⟨b, off, h, _⟩; exact h; cases h
    simp [Conv.bytesToString, text]
    rfl
  | some ad, hr =>
    have hload := run_loadCells_list (P := Tryz.prog) w ad (vals bs) hr.news
    have e : vals bs = (bs.map fun c => ((c : Nat) : Int)).map (Value.int .u8) := by simp [vals]
    rw [vals_length] at hload
    rw [e] at hload
    rw [run_bytesToString w ad bs.length cap _ hload, foldl_push]
    congr 2
    simp [text]
theorem drew2 (w : World) (m n : Nat) : (w.drewN m).drewN n = w.drewN (m + n) := by simp [World.drewN, Nat.add_assoc]
def CtxTo (w : World) (o : Option Addr) (bs : List Nat) (most : Int) (e : Ending) (w' : World) : Prop :=
  (∃ m, w' = w.drewN m) ∧
  ((∃ er, Hid (ctext bs most = ([], bs, er)) ∧ 0 < er ∧ er ≤ 5 ∧ e = .returned (.tuple #[.slice none 0 0, .slice none 0 0, .int .i64 (er : Nat)])) ∨
   (∃ s r o1 c1 n1 o2 c2 n2, Hid (ctext bs most = (s, r, 0)) ∧ e = .returned (.tuple #[.slice o1 n1 c1, .slice o2 n2 c2, .int .i64 0]) ∧ Hid (n1 = s.length) ∧ Hid (n2 = r.length) ∧ n2 ≤ 140737488355328 ∧ BSl w o1 c1 s ∧ BSl w o2 c2 r ∧ BSub o o1 ∧ BSub o o2))
set_option maxRecDepth 10000 in
theorem cutText_any (w : World) (o : Option Addr) (n c : Nat) (bs : List Nat) (most : Int) (hn : n = bs.length) (h : BSl w o c bs) (hlid : bs.length ≤ 140737488355328) (hm1 : -9223372036854775808 ≤ most) (hm2 : most ≤ 9223372036854775807) :
    Calls Tryz.prog 244 #[.slice o n c, .int .i64 most] w (CtxTo w o bs most) := by
  go_enter Tryz.func244, Tryz.ntmps244
  have HN : Hid (n = bs.length) := hn
  clear hn
  go_wp2_with fail
  refine (cutCount_any w o n c bs most HN.out h hlid hm1 hm2).mono ?_
  rintro e w1 ⟨⟨m, rfl⟩, ⟨er, HE, her, her5, rfl⟩ | ⟨v, o', c', n', HE, hv, rfl, hn', hn5, hsl, hsub⟩⟩
  · have her' : ¬ ((er : Nat) : Int) = 0 := by omega
    go_wp2
    go_ret3
    exact ⟨⟨m, rfl⟩, .inl ⟨er, by show _ = _; simp [ctext, HE.out]; omega, her, her5, rfl⟩⟩
  · by_cases hlt : n' < v
    · go_wp2
      go_ret3
      exact ⟨⟨m, rfl⟩, .inl ⟨4, by show _ = _; have := hn'.out; simp [ctext, HE.out]; simp at this; omega, by omega, by omega, rfl⟩⟩
    · obtain ⟨A, d, hcut, hsl1, hsub1⟩ := cut_h w o' c' (bs.drop 4) n' v v rfl hn'.out (by omega) hsl
      obtain ⟨A', d', hcut', hsl', hsub'⟩ := cut_l w o' c' (bs.drop 4) n' v v rfl hn'.out (by omega) hsl
      go_wp2
      go_quiet (fail)
      go_wp2
      go_ret3
      have := hn'.out
      rw [List.length_drop] at this
      refine ⟨⟨_, drew2 _ _ _⟩, .inr ⟨(bs.drop 4).take v, (bs.drop 4).drop v, A, d, v, A', d', n' - v, ?_, rfl, ?_, ?_, by omega, hsl1, hsl', hsub.trans hsub1, hsub.trans hsub'⟩⟩
      · show _ = _
        unfold ctext
        rw [HE.out]
        simp
        omega
      · show _ = _; rw [List.length_take, List.length_drop]; omega
      · show _ = _; rw [List.length_drop, List.length_drop]; omega
def OwnsS (w : World) (o : Option Addr) (c : Nat) (ss : List ByteArray) : Prop := w.ownsRow 0 9 1 (.slice o ss.length c) ss.length (ss.map Value.string)
theorem OwnsS.shape {w : World} {o : Option Addr} {c : Nat} {ss : List ByteArray} (h : OwnsS w o c ss) : (o = none ∧ c = 0 ∧ ss = []) ∨ ∃ g cur, o = some ⟨g, 0, none⟩ ∧ w.heap[g]? = some (.cells cur 9 (0, 0)) ∧ ss.length ≤ c ∧ c ≤ maxLen ∧ cur.size = c ∧ cur.toList.take ss.length = ss.map Value.string := by
  rcases h.2 with ⟨e, h0⟩ | ⟨g, cap, cur, e, _, h1, h2, h3, h4, h5⟩
  · injection e with e1 e2 e3
    exact .inl ⟨e1, e3, List.length_eq_zero_iff.mp h0⟩
  · injection e with e1 e2 e3
    subst e3
    exact .inr ⟨g, cur, e1, h1, h2, h3, by simpa using h4, by simpa using h5⟩
theorem OwnsS.keeps {S : Nat → Prop} {w w' : World} {o : Option Addr} {c : Nat} {ss : List ByteArray} (h : OwnsS w o c ss) (hk : Keeps S w w') (hv : ∀ k, inO o k → ¬ S k) : OwnsS w' o c ss :=
  ownsRow_keeps h hk (fun k hh => hv k ((own_blk _ _ _ _).1 hh))
theorem OwnsS.alloc {w : World} {o : Option Addr} {c : Nat} {ss : List ByteArray} (h : OwnsS w o c ss) (x : Obj) : OwnsS (w.alloc x) o c ss := World.ownsRow.alloc h x
theorem ownsS_nil (w : World) : OwnsS w none 0 [] := World.ownsRow_nil w 0 9 1
theorem ownsS_val {w : World} {v : Value} {n : Nat} {ss : List ByteArray} (h : w.ownsRow 0 9 1 v n (ss.map Value.string)) : ∃ o c, v = .slice o n c ∧ n = ss.length ∧ OwnsS w o c ss := by
  have hn : n = ss.length := by have := h.1; simp at this; omega
  rcases h.2 with ⟨e, h0⟩ | ⟨g, cap, cur, e, _⟩
  · refine ⟨none, 0, by rw [e, h0], hn, ?_⟩
    unfold OwnsS
    rw [← hn, h0]
    rw [e, h0] at h
    exact h
  · refine ⟨_, _, e, hn, ?_⟩
    unfold OwnsS
    rw [← hn, ← e]
    exact h
theorem RowS.news {w : World} {ad : Addr} {ss : List ByteArray} (h : RowS w (some ad) ss) : ∀ j u, (ss.map Value.string)[j]? = some u → w.cell? (ad.add j) = some u := by
  intro j u hj
  have hjl : j < ss.length := by
    have := (List.getElem?_eq_some_iff.mp hj).1
    simpa using this
  rcases h with h | ⟨b, off, h, hc⟩
  · rw [h] at hjl; simp at hjl
  · cases h
    have := hc j hjl
    rw [← addr_add] at this
    have e : u = .string (ss.getD j ⟨#[]⟩) := by
      simp [hjl] at hj
      simp [hjl, hj]
    rw [e]
    exact this
theorem wpList_appL {w : World} {ops : Array Oper} {rest : List Oper} {o : Oper} {a : Act} {Q : Exit → Act → World → Prop} (hgd : o.guard = none) (s x : Operand)
    (ho : o.op = .call { callee := .builtin .append, args := #[s, x], argTypes := #[45, 45] })
    (oa : Option Addr) (n c : Nat) (ss : List ByteArray) (hs : a.eval s = .slice oa n c) (hn : n = ss.length) (hown : OwnsS w oa c ss)
    (ox : Option Addr) (m d : Nat) (news : List ByteArray) (hx : a.eval x = .slice ox m d) (hm : m = news.length) (hd : ox = none → d = 0) (hrow : RowS w ox news)
    (hb : (n + m) * 16 ≤ 140737488355328)
    (h : ∀ o' c' w', OwnsS w' o' c' (ss ++ news) → Fresh w oa o' → Keeps (inO oa) w w' → wpList Tryz.prog ops Q rest (a.put o.dst (.slice o' (n + m) c')) w') : wpList Tryz.prog ops Q (o :: rest) a w := by
  obtain ⟨i0, hi, hz0, hz1, hz2⟩ := info_parts info9
  subst hn hm
  match ox, hrow, hx with
  | none, hrow, hx =>
    obtain rfl : news = [] := by rcases hrow with h | ⟨b, off, h, _⟩; exact h; cases h
    obtain rfl : d = 0 := hd rfl
    refine wpList_append_own_none hgd s x 45 ho 0 9 i0 1 Tryz.underlying45 hi _ _ _ hs hown hx ?_
    exact h oa c w (by simpa using hown) (.inl rfl) (Keeps.refl _ _)
  | some ad, hrow, hx =>
    refine wpList_append_own_at _ hgd s x 45 ho 0 9 i0 (.string ⟨#[]⟩) 1 16 Tryz.underlying45 hi hz0 hz1 hz2 rfl (by decide) _ ss.length (ss.map Value.string) hs hown ad _ _ (news.map Value.string) hx (by simp) hrow.news (by intro u hu; simp at hu; obtain ⟨c, _, rfl⟩ := hu; rfl) (by unfold maxLen; omega) (by omega) (Nat.zero_le _) ?_
    intro v' w' hown' hg _ hat
    rw [← List.map_append] at hown'
    obtain ⟨o', c', rfl, hlen, hown''⟩ := ownsS_val hown'
    refine h o' c' w' hown'' ?_ ((Keeps.refl _ _).grown hg (fun k hk => .inl ((own_blk _ _ _ _).1 hk)))
    rcases hown''.shape with ⟨e, _⟩ | ⟨g, cur, e, _⟩ <;> rcases hown.shape with ⟨e', _⟩ | ⟨g', cur', e', _⟩ <;> subst e <;> subst e'
    · exact .inl rfl
    · rcases hat with hat | hat <;> cases hat
    · rcases hat with hat | hat
      · cases hat
      · simp [Value.ownBlock] at hat; exact .inr ⟨g, rfl, by omega⟩
    · rcases hat with hat | hat
      · simp [Value.ownBlock] at hat; rw [hat]; exact .inl rfl
      · simp [Value.ownBlock] at hat; exact .inr ⟨g, rfl, by omega⟩
theorem ctextsN_succ (n : Nat) (b : List Nat) (most : Int) : ctextsN (n + 1) b most = match ctext b most with
    | (s, r, e) => if e ≠ 0 then ([], b, e) else
      match ctextsN n r most with
      | (l, r', e') => if e' ≠ 0 then ([], b, e') else (s :: l, r', 0) := rfl
theorem ctextsN_add (most : Int) (m : Nat) : ∀ (k : Nat) (b : List Nat) (ls : List (List Nat)) (r : List Nat), ctextsN k b most = (ls, r, 0) →
    ctextsN (k + m) b most = match ctextsN m r most with | (l', r', e') => if e' ≠ 0 then ([], b, e') else (ls ++ l', r', 0) := by
  intro k
  induction k with
  | zero =>
    intro b ls r h
    simp [ctextsN] at h
    obtain ⟨rfl, rfl⟩ := h
    rw [Nat.zero_add]
    have : ∀ (m : Nat) (b : List Nat), (ctextsN m b most).2.2 ≠ 0 → (ctextsN m b most) = ([], b, (ctextsN m b most).2.2) := by
      intro m b hne
      cases m with
      | zero => simp [ctextsN] at hne
      | succ m =>
        unfold ctextsN at hne ⊢
        generalize ctext b most = q at hne ⊢
        obtain ⟨s, r, e⟩ := q
        dsimp only at hne ⊢
        split
        · rfl
        · rename_i h1
          rw [if_neg h1] at hne
          generalize ctextsN m r most = q' at hne ⊢
          obtain ⟨l, r', e'⟩ := q'
          dsimp only at hne ⊢
          split
          · rfl
          · rename_i h2
            rw [if_neg h2] at hne
            simp at hne
    have h2 := this m b
    generalize ctextsN m b most = q at h2 ⊢
    obtain ⟨l, r', e'⟩ := q
    dsimp only at h2 ⊢
    by_cases he : e' = 0
    · subst he; simp
    · simp [he]; simpa using h2 he
  | succ k ih =>
    intro b ls r h
    rw [show k + 1 + m = (k + m) + 1 by omega]
    rw [ctextsN_succ] at h ⊢
    generalize ctext b most = q at h ⊢
    obtain ⟨s, r1, e1⟩ := q
    dsimp only at h ⊢
    by_cases he : e1 = 0
    · subst he
      simp only [ne_eq, not_true_eq_false, if_false] at h ⊢
      generalize hq : ctextsN k r1 most = q at h
      obtain ⟨l, r2, e2⟩ := q
      dsimp only at h
      by_cases he2 : e2 = 0
      · subst he2
        simp at h
        obtain ⟨rfl, rfl⟩ := h
        rw [ih _ _ _ hq]
        generalize ctextsN m r2 most = q3
        obtain ⟨l', r', e'⟩ := q3
        dsimp only
        by_cases he3 : e' = 0
        · subst he3; simp
        · simp [he3]
      · simp [he2] at h
    · simp [he] at h
theorem ctextsN_snoc (most : Int) (k : Nat) (b : List Nat) (ls : List (List Nat)) (r s r' : List Nat) (h : ctextsN k b most = (ls, r, 0)) (h1 : ctext r most = (s, r', 0)) : ctextsN (k + 1) b most = (ls ++ [s], r', 0) := by
  rw [ctextsN_add most 1 k b ls r h]
  simp [ctextsN, h1]
theorem ctextsN_err (most : Int) (k n : Nat) (hkn : k < n) (b : List Nat) (ls : List (List Nat)) (r : List Nat) (e : Nat) (he : e ≠ 0) (h : ctextsN k b most = (ls, r, 0)) (h1 : ctext r most = ([], r, e)) : ctextsN n b most = ([], b, e) := by
  obtain ⟨m, rfl⟩ : ∃ m, n = k + (m + 1) := ⟨n - k - 1, by omega⟩
  rw [ctextsN_add most (m + 1) k b ls r h]
  simp [ctextsN, h1, he]
def TxsTo (w : World) (o : Option Addr) (bs : List Nat) (count most : Int) (e : Ending) (w' : World) : Prop :=
  Keeps (fun _ => False) w w' ∧
  ((∃ er, Hid (ctexts bs count most = ([], bs, er)) ∧ 0 < er ∧ er ≤ 5 ∧ e = .returned (.tuple #[.slice none 0 0, .slice none 0 0, .int .i64 (er : Nat)])) ∨
   (∃ ls r o1 c1 n1 o2 c2 n2, Hid (ctexts bs count most = (ls, r, 0)) ∧ e = .returned (.tuple #[.slice o1 n1 c1, .slice o2 n2 c2, .int .i64 0]) ∧ Hid (n1 = ls.length) ∧ Hid (n2 = r.length) ∧ n1 ≤ 4294967296 ∧ n2 ≤ 140737488355328 ∧ OwnsS w' o1 c1 (ls.map text) ∧ (∀ k, inO o1 k → w.heap.size ≤ k) ∧ BSl w' o2 c2 r ∧ BSub o o2 ∧ Hid (∀ s ∈ ls, ∀ c ∈ s, c < 256)))
set_option maxRecDepth 10000 in
set_option maxHeartbeats 400000 in
theorem cutTexts_any (w : World) (o : Option Addr) (n c : Nat) (bs : List Nat) (count most : Int) (hn : n = bs.length) (h : BSl w o c bs) (hlid : bs.length ≤ 140737488355328) (hlive : ∀ k, inO o k → k < w.heap.size) (hc1 : -9223372036854775808 ≤ count) (hc2 : count ≤ 9223372036854775807) (hm1 : -9223372036854775808 ≤ most) (hm2 : most ≤ 9223372036854775807) :
    Calls Tryz.prog 245 #[.slice o n c, .int .i64 count, .int .i64 most] w (TxsTo w o bs count most) := by
  have HN : Hid (n = bs.length) := hn
  clear hn
  go_enter Tryz.func245, Tryz.ntmps245
  go_wp2_with fail
  refine (cutCount_any w o n c bs count HN.out h hlid hc1 hc2).mono ?_
  rintro e w1 ⟨⟨m, rfl⟩, ⟨er, HE, her, her5, rfl⟩ | ⟨v, o', c', n', HE, hv, rfl, hn', hn5, hsl, hsub⟩⟩
  · have her' : ¬ ((er : Nat) : Int) = 0 := by omega
    go_wp2
    go_ret3
    exact ⟨keeps_drewN _ _ _, .inl ⟨er, by show _ = _; simp [ctexts, HE.out]; omega, her, her5, rfl⟩⟩
  · go_wp2_with fail
    go_loopw [10, 12, 27] (fun r l i wr => ∃ (k : Nat) (ls : List (List Nat)) (rs : List Nat) (oR : Option Addr) (cR nR : Nat) (oL : Option Addr) (cL : Nat), k ≤ v ∧ i = .int .i64 k ∧ r = .slice oR nR cR ∧ l = .slice oL k cL ∧ k = ls.length ∧ nR = rs.length ∧ nR ≤ 140737488355328 ∧ ctextsN k (bs.drop 4) most = (ls, rs, 0) ∧ Keeps (fun _ => False) w wr ∧ BSl wr oR cR rs ∧ BSub o oR ∧ OwnsS wr oL cL (ls.map text) ∧ (∀ x, inO oL x → w.heap.size ≤ x) ∧ (∀ s ∈ ls, ∀ c ∈ s, c < 256)) (fun _ _ i _ => v - (intOf i).toNat)
    case atStart => exact ⟨0, [], bs.drop 4, o', c', n', none, 0, by omega, rfl, rfl, rfl, rfl, hn'.out, hn5, rfl, keeps_drewN _ _ _, hsl.drewN m, hsub, ownsS_nil _, fun x ⟨y, h, _⟩ => (by cases h), fun s hs => (by cases hs)⟩
    case round =>
      obtain ⟨k, ls, rs, oR, cR, nR, oL, cL, hk, rfl, rfl, rfl, hkl, hnr, hnr5, hct, hK, hslr, hsubr, hown, hnew, hby⟩ := hrel
      have HKL : Hid (k = ls.length) := hkl
      have HNR : Hid (nR = rs.length) := hnr
      have HCT : Hid (ctextsN k (bs.drop 4) most = (ls, rs, 0)) := hct
      have HBY : Hid (∀ s ∈ ls, ∀ c ∈ s, c < 256) := hby
      clear hkl hnr hct hby
      by_cases h2 : k < v
      · go_wp2_with fail
        refine (cutText_any wr oR nR cR rs most HNR.out hslr (by have := HNR.out; omega) hm1 hm2).mono ?_
        rintro e w2 ⟨⟨m2, rfl⟩, ⟨er, HE2, her, her5, rfl⟩ | ⟨s, r, o1, c1, n1, o2, c2, n2, HE2, rfl, hn1, hn2, hn25, hsl1, hsl2, hsub1, hsub2⟩⟩
        · have her' : ¬ ((er : Nat) : Int) = 0 := by omega
          go_wp2
          go_ret3
          refine ⟨hK.trans (keeps_drewN _ _ _), .inl ⟨er, ?_, her, her5, rfl⟩⟩
          show _ = _
          unfold ctexts
          rw [HE.out]
          simp [ctextsN_err most k v h2 _ _ _ er (by omega) HCT.out HE2.out]
          omega
        · have hcv : ∀ q, (convert 29 9 (.slice o1 n1 c1)).run Tryz.prog ((wr.drewN m2).drewN q) = .ok (.string (text s)) ((wr.drewN m2).drewN q) := fun q => run_text _ o1 s n1 c1 hn1.out ((hsl1.drewN m2).drewN q).row
          have hcv0 : (convert 29 9 (.slice o1 n1 c1)).run Tryz.prog (wr.drewN m2) = .ok (.string (text s)) (wr.drewN m2) := run_text _ o1 s n1 c1 hn1.out (hsl1.drewN m2).row
          have HB : Hid (∀ c ∈ s, c < 256) := hsl1.row.1
          have hrs : RowS ((wr.drewN m2).alloc (.cells #[.string (text s)] 9)) (some ⟨wr.heap.size, 0, none⟩) [text s] := by
            refine .inr ⟨_, _, rfl, fun j hj => ?_⟩
            show World.cell? _ ⟨(wr.drewN m2).heap.size, 0 + j, none⟩ = _
            rw [cell_of_blk (blk_new (wr.drewN m2) _)]
            match j, hj with
            | 0, _ => rfl
          have hown2 : OwnsS ((wr.drewN m2).alloc (.cells #[.string (text s)] 9)) oL cL (ls.map text) := (hown.keeps (keeps_drewN (fun _ => False) _ m2) (fun _ _ h => h)).alloc _
          go_wp2_with (at_builtin; go_must (refine wpList_appL rfl _ _ rfl oL _ cL (ls.map text) (by rfl) (by rw [List.length_map]; exact HKL.out) hown2 (some ⟨wr.heap.size, 0, none⟩) 1 1 [text s] (by rfl) rfl (by simp) hrs (by omega) ?_); rintro o3 c3 w3 hown3 hfr3 hk3)
          go_roundw
          case rel =>
            have hK3 : Keeps (fun _ => False) w w3 := ((hK.trans (keeps_drewN _ _ m2)).alloc _).then hk3 (fun i hi => .inr (hnew i hi))
            have hk3' : Keeps (fun k => w.heap.size ≤ k ∧ inO oL k) wr w3 := (((keeps_drewN _ wr m2)).alloc _).then hk3 (fun i hi => .inl ⟨hnew i hi, hi⟩)
            refine ⟨k + 1, ls ++ [s], r, o2, c2, n2, o3, c3, by omega, by go_num, rfl, rfl, by rw [List.length_append, ← HKL.out]; rfl, hn2.out, hn25, ctextsN_snoc most k _ ls rs s r HCT.out HE2.out, hK3, ?_, hsubr.trans hsub2, ?_, ?_, ?_⟩
            · refine hsl2.keeps hk3' (fun x hx hh => ?_)
              have := hlive x ((hsubr.trans hsub2).in x hx)
              omega
            · rw [List.map_append]; exact hown3
            · intro x hx
              rcases hfr3.in x hx with h' | h'
              · exact hnew x h'
              · have := hK.size; simp at h'; omega
            · intro s' hs'
              rcases List.mem_append.mp hs' with h' | h'
              · exact HBY.out s' h'
              · simp at h'; rw [h']; exact HB.out
          case measure => simp [intOf]; omega
      · go_wp2
        go_ret3
        obtain rfl : k = v := by omega
        refine ⟨hK, .inr ⟨ls, rs, oL, cL, k, oR, cR, nR, ?_, rfl, HKL.out, HNR.out, by omega, hnr5, hown, hnew, hslr, hsubr, HBY.out⟩⟩
        show _ = _
        unfold ctexts
        rw [HE.out]
        simp [HCT.out]
end Go.Proofs.YtdemoghlibnooaaGreatDoor
namespace Go.Proofs.YtdemoghlibnooaaGreatDoor
open Go.RowKit
open Pk
set_option linter.unusedVariables false
set_option linter.unusedSimpArgs false
set_option maxRecDepth 10000 in
theorem rCount_any (w : World) (a : Nat) (o : Option Addr) (c : Nat) (bs : List Nat) (e0 : Nat) (most : Int) (hm1 : -9223372036854775808 ≤ most) (hm2 : most ≤ 9223372036854775807) (h : IsR 274 w a o c bs e0) :
    Calls Tryz.prog 195 #[.pointer (some ⟨a, 0, none⟩), .int .i64 most] w fun e w' => e = .returned (.int .i64 ((rcount most (bs, e0)).1 : Nat)) ∧ RStep 274 w a o (rcount most (bs, e0)).2 w' := by
  have c0 : w.cell? ⟨a, 0, none⟩ = some (.slice o bs.length c) := cell_of_blk h.blk 0
  have c1 : w.cell? ⟨a, 1, none⟩ = some (.int .i64 (e0 : Nat)) := cell_of_blk h.blk 1
  have f0 : w.frozen? ⟨a, 0, none⟩ = false := frozen_of_blk h.blk 0
  have f1 : w.frozen? ⟨a, 1, none⟩ = false := frozen_of_blk h.blk 1
  have hlid := h.lid
  by_cases he : e0 = 0
  · subst he
    go_enter Tryz.func195, Tryz.ntmps195
    go_wp2_with fail
    refine (cutCount_any w o _ c bs most rfl h.sl hlid hm1 hm2).mono ?_
    rintro e w1 ⟨⟨m, rfl⟩, ⟨er, HE, her, her5, rfl⟩ | ⟨v, o', c', n', HE, hv, rfl, hn', hn5, hsl, hsub⟩⟩
    · have her' : ¬ ((er : Nat) : Int) = 0 := by omega
      go_wp2
      go_ret
      obtain ⟨h4, hk4⟩ := (h.drewN m).err er her5
      have er : rcount most (bs, 0) = (0, (bs, er)) := by simp [rcount, HE.out]; omega
      rw [er]
      exact ⟨rfl, o, c, h4, BSub.refl _, (keeps_drewN _ _ _).trans hk4⟩
    · go_wp2
      go_ret
      obtain ⟨hW, hK⟩ := (h.drewN m).put (hsl.drewN m) hsub (by have := hn'.out; omega) n' hn'.out
      have er : rcount most (bs, 0) = (v, (bs.drop 4, 0)) := by simp [rcount, HE.out]
      rw [er]
      exact ⟨rfl, o', c', hW, hsub, (keeps_drewN _ _ _).trans hK⟩
  · have he' : ¬ ((e0 : Nat) : Int) = 0 := by omega
    go_enter Tryz.func195, Tryz.ntmps195
    go_wp2
    go_ret
    have er : rcount most (bs, e0) = (0, (bs, e0)) := by simp [rcount, he]
    rw [er]
    exact ⟨rfl, o, c, h, BSub.refl _, Keeps.refl _ _⟩
set_option maxRecDepth 10000 in
theorem rText_any (w : World) (a : Nat) (o : Option Addr) (c : Nat) (bs : List Nat) (e0 : Nat) (most : Int) (hm1 : -9223372036854775808 ≤ most) (hm2 : most ≤ 9223372036854775807) (h : IsR 274 w a o c bs e0) :
    Calls Tryz.prog 197 #[.pointer (some ⟨a, 0, none⟩), .int .i64 most] w fun e w' => e = .returned (.string (text (rtext most (bs, e0)).1)) ∧ RStep 274 w a o (rtext most (bs, e0)).2 w' := by
  have c0 : w.cell? ⟨a, 0, none⟩ = some (.slice o bs.length c) := cell_of_blk h.blk 0
  have c1 : w.cell? ⟨a, 1, none⟩ = some (.int .i64 (e0 : Nat)) := cell_of_blk h.blk 1
  have f0 : w.frozen? ⟨a, 0, none⟩ = false := frozen_of_blk h.blk 0
  have f1 : w.frozen? ⟨a, 1, none⟩ = false := frozen_of_blk h.blk 1
  have hlid := h.lid
  by_cases he : e0 = 0
  · subst he
    go_enter Tryz.func197, Tryz.ntmps197
    go_wp2_with fail
    refine (cutText_any w o _ c bs most rfl h.sl hlid hm1 hm2).mono ?_
    rintro e w1 ⟨⟨m, rfl⟩, ⟨er, HE, her, her5, rfl⟩ | ⟨s, r, o1, c1, n1, o2, c2, n2, HE, rfl, hn1, hn2, hn25, hsl1, hsl2, hsub1, hsub2⟩⟩
    · have her' : ¬ ((er : Nat) : Int) = 0 := by omega
      go_wp2
      go_ret
      obtain ⟨h4, hk4⟩ := (h.drewN m).err er her5
      have er : rtext most (bs, 0) = ([], (bs, er)) := by simp [rtext, HE.out]; omega
      rw [er]
      exact ⟨rfl, o, c, h4, BSub.refl _, (keeps_drewN _ _ _).trans hk4⟩
    · obtain ⟨hW, hK⟩ := (h.drewN m).put (hsl2.drewN m) hsub2 (by have := hn2.out; omega) n2 hn2.out
      have hcv := run_text _ o1 s n1 c1 hn1.out ((hsl1.drewN m).keeps hK (fun k hk e => h.ap (e ▸ hsub1.in k hk))).row
      go_wp2
      go_ret
      have er : rtext most (bs, 0) = (s, (r, 0)) := by simp [rtext, HE.out]
      rw [er]
      exact ⟨rfl, o2, c2, hW, hsub2, (keeps_drewN _ _ _).trans hK⟩
  · have he' : ¬ ((e0 : Nat) : Int) = 0 := by omega
    go_enter Tryz.func197, Tryz.ntmps197
    go_wp2
    go_ret
    have er : rtext most (bs, e0) = ([], (bs, e0)) := by simp [rtext, he]
    rw [er]
    exact ⟨rfl, o, c, h, BSub.refl _, Keeps.refl _ _⟩
def TellsS (w : World) (ls : List (List Nat)) (e : Ending) (w' : World) : Prop :=
  ∃ o1 c1 n1, e = .returned (.slice o1 n1 c1) ∧ Hid (n1 = ls.length) ∧ n1 ≤ 4294967296 ∧ OwnsS w' o1 c1 (ls.map text) ∧ (∀ k, inO o1 k → w.heap.size ≤ k) ∧ Hid (∀ s ∈ ls, ∀ c ∈ s, c < 256)
set_option maxRecDepth 10000 in
theorem rTexts_any (w : World) (a : Nat) (o : Option Addr) (c : Nat) (bs : List Nat) (e0 : Nat) (count most : Int) (hc1 : -9223372036854775808 ≤ count) (hc2 : count ≤ 9223372036854775807) (hm1 : -9223372036854775808 ≤ most) (hm2 : most ≤ 9223372036854775807) (h : IsR 274 w a o c bs e0) :
    Calls Tryz.prog 199 #[.pointer (some ⟨a, 0, none⟩), .int .i64 count, .int .i64 most] w fun e w' => TellsS w (rtexts count most (bs, e0)).1 e w' ∧ RStep 274 w a o (rtexts count most (bs, e0)).2 w' := by
  have c0 : w.cell? ⟨a, 0, none⟩ = some (.slice o bs.length c) := cell_of_blk h.blk 0
  have c1 : w.cell? ⟨a, 1, none⟩ = some (.int .i64 (e0 : Nat)) := cell_of_blk h.blk 1
  have hlid := h.lid
  by_cases he : e0 = 0
  · subst he
    go_enter Tryz.func199, Tryz.ntmps199
    go_wp2_with fail
    refine (cutTexts_any w o _ c bs count most rfl h.sl hlid h.live hc1 hc2 hm1 hm2).mono ?_
    rintro e w1 ⟨hk1, ⟨er, HE, her, her5, rfl⟩ | ⟨ls, r, o1, c1, n1, o2, c2, n2, HE, rfl, hn1, hn2, hn15, hn25, hown, hnew, hsl2, hsub2, HB⟩⟩
    · have her' : ¬ ((er : Nat) : Int) = 0 := by omega
      have h1 := h.keeps hk1 (fun _ _ h => h)
      obtain ⟨h4, hk4⟩ := h1.err er her5
      have f1 : w1.frozen? ⟨a, 1, none⟩ = false := frozen_of_blk h1.blk 1
      have c1 : w1.cell? ⟨a, 1, none⟩ = some (.int .i64 0) := cell_of_blk h1.blk 1
      go_wp2
      go_ret
      have er : rtexts count most (bs, 0) = ([], (bs, er)) := by simp [rtexts, HE.out]; omega
      rw [er]
      exact ⟨⟨none, 0, 0, rfl, rfl, by omega, ownsS_nil _, fun k ⟨x, h, _⟩ => (by cases h), fun s hs => (by cases hs)⟩, o, c, h4, BSub.refl _, (hk1.mono (fun _ h => h.elim)).trans hk4⟩
    · have h1 := h.keeps hk1 (fun _ _ h => h)
      have f0 : w1.frozen? ⟨a, 0, none⟩ = false := frozen_of_blk h1.blk 0
      have c00 : w1.cell? ⟨a, 0, none⟩ = some (.slice o bs.length c) := cell_of_blk h1.blk 0
      obtain ⟨hW, hK⟩ := h1.put hsl2 hsub2 (by have := hn2.out; omega) n2 hn2.out
      go_wp2
      go_ret
      have er : rtexts count most (bs, 0) = (ls, (r, 0)) := by simp [rtexts, HE.out]
      rw [er]
      refine ⟨⟨o1, c1, n1, rfl, hn1, hn15, hown.keeps hK (fun k hk e => ?_), hnew, HB⟩, o2, c2, hW, hsub2, (hk1.mono (fun _ h => h.elim)).trans hK⟩
      have := hnew k hk
      have := lt_of_block h.blk
      omega
  · have he' : ¬ ((e0 : Nat) : Int) = 0 := by omega
    go_enter Tryz.func199, Tryz.ntmps199
    go_wp2
    go_ret
    have er : rtexts count most (bs, e0) = ([], (bs, e0)) := by simp [rtexts, he]
    rw [er]
    exact ⟨⟨none, 0, 0, rfl, rfl, by omega, ownsS_nil _, fun k ⟨x, h, _⟩ => (by cases h), fun s hs => (by cases hs)⟩, o, c, h, BSub.refl _, Keeps.refl _ _⟩
end Go.Proofs.YtdemoghlibnooaaGreatDoor
