/- Bytes as disk's texts and as record's texts say them; what Open of a log does, in pure lists. -/
import Derived.Test.YtgamhblkgojapaaGreatDoorGDb
import Derived.Test.YtgamhblkgojapaaGreatDoorC8
namespace Go.Proofs.YtgamhblkgojapaaGreatDoor
open Go.RowKit Pk Dk
set_option linter.unusedVariables false
set_option linter.unusedSimpArgs false

def nts (l : List UInt8) : List Nat := l.map UInt8.toNat
def u8s (l : List Nat) : List UInt8 := l.map UInt8.ofNat
theorem nts_length (l : List UInt8) : (nts l).length = l.length := by simp [nts]
theorem u8s_length (l : List Nat) : (u8s l).length = l.length := by simp [u8s]
theorem nts_append (a b : List UInt8) : nts (a ++ b) = nts a ++ nts b := by simp [nts]
theorem nts_take (l : List UInt8) (k : Nat) : nts (l.take k) = (nts l).take k := by simp [nts, List.map_take]
theorem nts_lt (l : List UInt8) : ∀ x ∈ nts l, x < 256 := by
  intro x hx
  obtain ⟨c, _, rfl⟩ := List.mem_map.1 hx
  exact c.toNat_lt
theorem nts_u8s : ∀ {l : List Nat}, (∀ x ∈ l, x < 256) → nts (u8s l) = l
  | [], _ => rfl
  | a :: r, h => by
    have h1 := nts_u8s (l := r) (fun x hx => h x (List.mem_cons_of_mem _ hx))
    have h2 : (UInt8.ofNat a).toNat = a := by
      have := h a (List.mem_cons_self ..)
      simp [UInt8.toNat_ofNat]; omega
    simp only [nts, u8s, List.map_cons] at h1 ⊢
    rw [h1, h2]
theorem u8s_nts (l : List UInt8) : u8s (nts l) = l := by
  induction l with
  | nil => rfl
  | cons a r ih =>
    simp only [nts, u8s, List.map_cons] at ih ⊢
    rw [ih]
    simp
theorem nts_inj {a b : List UInt8} (h : nts a = nts b) : a = b := by rw [← u8s_nts a, ← u8s_nts b, h]
theorem cells_nts (l : List UInt8) : BU.cells l = vals (nts l) := by
  rw [cells_U]
  simp [vals, nts, bv]
theorem own_U {w : World} {o : Option Addr} {c : Nat} {l : List UInt8} : Own BU w o c l ↔ Owns w o c (nts l) := by
  unfold Own Owns
  rw [cells_nts, nts_length]
  exact Iff.rfl
theorem own_u8 {w : World} {o : Option Addr} {c : Nat} {l : List Nat} (hb : ∀ x ∈ l, x < 256) (h : Owns w o c l) : Own BU w o c (u8s l) := own_U.2 (by rw [nts_u8s hb]; exact h)
/-- what Scan tells: whole records, and then none -/
def Sc (b : List Nat) (rs : List Rec) (k : Nat) : Prop := Run b rs k ∧ (parse (b.drop k)).2.2 ≠ 0
theorem Sc.one {b : List Nat} {rs rs' : List Rec} {k k' : Nat} (h : Sc b rs k) (h' : Sc b rs' k') : rs = rs' ∧ k = k' := h.1.one (e := 0) (e' := 0) h'.1 h.2 h'.2
/-- Open: the disk behind it, the error, the size, the records -/
inductive Opn (n : Nm) (s : St) : St → Int → Nat → List Rec → Prop
  | gone (h : readE n (tick s) = 61) : Opn n s (tick s) 0 0 []
  | err (h : readE n (tick s) ≠ 61) (h0 : readE n (tick s) ≠ 0) : Opn n s (tick s) (readE n (tick s)) 0 []
  | whole {rs : List Rec} {k : Nat} (h : readE n (tick s) = 0) (hs : Sc (nts (readB n (tick s))) rs k) (hk : ¬ k < (readB n (tick s)).length) : Opn n s (tick s) 0 k rs
  | cut {rs : List Rec} {k : Nat} (h : readE n (tick s) = 0) (hs : Sc (nts (readB n (tick s))) rs k) (hk : k < (readB n (tick s)).length) (hc : (counted (tick s) (cutOn n k)).2 = 0) : Opn n s (counted (tick s) (cutOn n k)).1 0 k rs
  | fail {rs : List Rec} {k : Nat} (h : readE n (tick s) = 0) (hs : Sc (nts (readB n (tick s))) rs k) (hk : k < (readB n (tick s)).length) (hc : (counted (tick s) (cutOn n k)).2 ≠ 0) : Opn n s (counted (tick s) (cutOn n k)).1 (counted (tick s) (cutOn n k)).2 0 []
theorem Opn.one {n : Nm} {s s1 s2 : St} {e1 e2 : Int} {k1 k2 : Nat} {r1 r2 : List Rec} (h1 : Opn n s s1 e1 k1 r1) (h2 : Opn n s s2 e2 k2 r2) : s1 = s2 ∧ e1 = e2 ∧ k1 = k2 ∧ r1 = r2 := by
  cases h1 with
  | gone h =>
    cases h2 with
    | gone _ => exact ⟨rfl, rfl, rfl, rfl⟩
    | err a _ => exact absurd h a
    | whole a _ _ => rw [h] at a; exact absurd a (by decide)
    | cut a _ _ _ => rw [h] at a; exact absurd a (by decide)
    | fail a _ _ _ => rw [h] at a; exact absurd a (by decide)
  | err h h0 =>
    cases h2 with
    | gone a => exact absurd a h
    | err _ _ => exact ⟨rfl, rfl, rfl, rfl⟩
    | whole a _ _ => exact absurd a h0
    | cut a _ _ _ => exact absurd a h0
    | fail a _ _ _ => exact absurd a h0
  | whole h hs hk =>
    cases h2 with
    | gone a => rw [h] at a; exact absurd a (by decide)
    | err _ a => exact absurd h a
    | whole _ hs' _ => obtain ⟨rfl, rfl⟩ := hs.one hs'; exact ⟨rfl, rfl, rfl, rfl⟩
    | cut _ hs' hk' _ => obtain ⟨rfl, rfl⟩ := hs.one hs'; exact absurd hk' hk
    | fail _ hs' hk' _ => obtain ⟨rfl, rfl⟩ := hs.one hs'; exact absurd hk' hk
  | cut h hs hk hc =>
    cases h2 with
    | gone a => rw [h] at a; exact absurd a (by decide)
    | err _ a => exact absurd h a
    | whole _ hs' hk' => obtain ⟨rfl, rfl⟩ := hs.one hs'; exact absurd hk hk'
    | cut _ hs' _ _ => obtain ⟨rfl, rfl⟩ := hs.one hs'; exact ⟨rfl, rfl, rfl, rfl⟩
    | fail _ hs' _ hc' => obtain ⟨rfl, rfl⟩ := hs.one hs'; exact absurd hc hc'
  | fail h hs hk hc =>
    cases h2 with
    | gone a => rw [h] at a; exact absurd a (by decide)
    | err _ a => exact absurd h a
    | whole _ hs' hk' => obtain ⟨rfl, rfl⟩ := hs.one hs'; exact absurd hk hk'
    | cut _ hs' _ hc' => obtain ⟨rfl, rfl⟩ := hs.one hs'; exact absurd hc' hc
    | fail _ hs' _ _ => obtain ⟨rfl, rfl⟩ := hs.one hs'; exact ⟨rfl, rfl, rfl, rfl⟩
/-- a log: a file of a disk -/
structure IsL (w : World) (q p : Nat) (n : Tx) (k : Nat) : Prop where
  blk : w.heap[q]? = some (.cells #[.pointer (some ⟨p, 0, none⟩), .string n, .int .i64 (k : Nat)] 73 (0, 0))
theorem IsL.keeps {S : Nat → Prop} {w w' : World} {q p : Nat} {n : Tx} {k : Nat} (h : IsL w q p n k) (hk : Keeps S w w') (hq : ¬ S q) : IsL w' q p n k := ⟨hk.at h.blk hq⟩
theorem Scn.keepsF {S : Nat → Prop} {w w' w'' : World} {o : Option Addr} {c : Nat} {vs : List CV} {rs : List Rec} (h : Scn w w' o c vs rs) (hk : Keeps S w' w'') (hS : ∀ j, S j → j < w.heap.size) : Scn w w'' o c vs rs :=
  ⟨h.own.keeps hk (fun j hj hs => by have := h.new j hj; have := hS j hs; omega), h.new, h.len, fun j hj => (h.each j hj).keeps hk hS, h.sep⟩
theorem Scn.of_le {w0 w w' : World} {o : Option Addr} {c : Nat} {vs : List CV} {rs : List Rec} (h : Scn w w' o c vs rs) (hl : w0.heap.size ≤ w.heap.size) : Scn w0 w' o c vs rs :=
  ⟨h.own, h.new.of_le hl, h.len, fun j hj => (h.each j hj).of_le hl, h.sep⟩
/-- Open told no log -/
def NoLog (w : World) (p : Nat) (F : Nat → Prop) (s : St) (n : Tx) (e : Ending) (w' : World) : Prop :=
  ∃ (s' : St) (E : Int), e = .returned (.tuple #[.pointer none, .slice none 0 0, .int .i64 E]) ∧ Hid (Opn n.data.toList s s' E 0 []) ∧ E ≠ 0 ∧ Hid (IsD w' p F s') ∧ Hid (Keeps F w w')
/-- a log, and its records -/
def ALog (w : World) (p : Nat) (F : Nat → Prop) (s : St) (n : Tx) (e : Ending) (w' : World) : Prop :=
  ∃ (s' : St) (q : Nat) (o : Option Addr) (m c k : Nat) (vs : List CV) (rs : List Rec), e = .returned (.tuple #[.pointer (some ⟨q, 0, none⟩), .slice o m c, .int .i64 0]) ∧ Hid (Opn n.data.toList s s' 0 k rs) ∧ Hid (m = rs.length) ∧ Hid (IsL w' q p n k ∧ w.heap.size ≤ q) ∧ Hid (Scn w w' o c vs rs) ∧ (k : Int) ≤ 1099511627776 ∧ (m : Int) ≤ 137438953472 ∧ Hid (IsD w' p F s') ∧ Hid (Keeps F w w')
def OpenTo (w : World) (p : Nat) (F : Nat → Prop) (s : St) (n : Tx) (e : Ending) (w' : World) : Prop := NoLog w p F s n e w' ∨ ALog w p F s n e w'
end Go.Proofs.YtgamhblkgojapaaGreatDoor
