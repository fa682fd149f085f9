import Derived.Test.YtdemoghlibnooaaGreatDoorG3
import Derived.Test.YtdemoghlibnooaaGreatDoorBC
import Derived.Lib.ItoaLen
/- Boot in pure functions. -/
namespace Go.Proofs.YtdemoghlibnooaaGreatDoor
open Go.RowKit Orl Pk Go.Sort
set_option linter.unusedVariables false
set_option linter.unusedSimpArgs false

def snapN : Tx := ⟨#[115, 110, 97, 112]⟩
def stemB : List UInt8 := [108, 111, 103, 46]
def logN (g : Int) : Tx := ⟨(stemB ++ Lib.itoa g).toArray⟩
def snapB : Dk.Nm := snapN.data.toList
def logB (g : Int) : Dk.Nm := (logN g).data.toList
theorem logB_eq (g : Int) : logB g = stemB ++ Lib.itoa g := by simp [logB, logN]
theorem log_ne (g : Int) : logB g ≠ snapB := by
  rw [logB_eq]
  intro h
  have := congrArg List.head? h
  simp [stemB, snapB, snapN] at this
theorem snap_good : Dk.good snapB = true := by decide
theorem log_good {g : Int} (h0 : -9223372036854775808 ≤ g) (h1 : g ≤ 9223372036854775807) : Dk.good (logB g) = true := by
  have := Lib.itoa_length_le g h0 h1
  rw [logB_eq]
  unfold Dk.good
  simp [stemB]
  omega
theorem logN_size {g : Int} (h0 : -9223372036854775808 ≤ g) (h1 : g ≤ 9223372036854775807) : (logN g).size ≤ 25 := by
  have := Lib.itoa_length_le g h0 h1
  have e : (logN g).size = (stemB ++ Lib.itoa g).length := by simp [logN, ByteArray.size]
  rw [e]
  simp [stemB]
  omega

/-- what a record may be, a store takes -/
theorem may_put {r : Rec} (h : may r = true) (h1 : r.kind = 1) {now : Int} (ht : tickB now = true) : okPut r.id r.pairs r.keys now = true := by
  obtain ⟨hi, hc⟩ := may_parts h
  rcases hc with ⟨_, hk, hp⟩ | ⟨h2, _⟩
  · have a := mayK_all hk
    unfold mayP at hp
    simp only [Bool.and_eq_true, decide_eq_true_eq, List.all_eq_true] at hp
    obtain ⟨p1, p2, p3, p4⟩ := hp
    unfold okPut okKeys okPairs
    simp only [Bool.and_eq_true, decide_eq_true_eq, List.all_eq_true]
    refine ⟨hi, ⟨⟨⟨a.2.1, a.1⟩, a.2.2.1⟩, a.2.2.2⟩, ⟨fun p hp' => ⟨p2 p hp', p4 _ (List.mem_map_of_mem hp')⟩, by omega, ?_⟩, ht⟩
    have := rising_map (fun p : Pr => p.1) lts r.pairs
    show rising (fun p q : Pr => lts p.1 q.1) r.pairs = true
    rw [this]
    exact p3
  · rw [h1] at h2; cases h2
theorem may_com {r : Rec} (h : may r = true) (h1 : r.kind ≠ 1) : r.kind = 2 ∧ 65536 ≤ r.id := by
  obtain ⟨hi, hc⟩ := may_parts h
  rcases hc with ⟨e, _⟩ | ⟨e, _⟩
  · exact absurd e h1
  · exact ⟨e, hi⟩

/-- a record done to a store -/
def doRec (now : Int) (s : St) (r : Rec) : St := if r.kind = 1 then putAll r.id r.keys now s (miss s r.id r.pairs) else commitS s r.id now
def redoS (now : Int) (s : St) (rs : List Rec) : St := rs.foldl (doRec now) s
theorem redo_snoc (now : Int) (s : St) (rs : List Rec) (k : Nat) (h : k < rs.length) : redoS now s (rs.take (k + 1)) = doRec now (redoS now s (rs.take k)) (rs.getD k c0) := by
  unfold redoS
  rw [take_succ_getD rs k c0 h, List.foldl_append]
  rfl
theorem redo_app (now : Int) (s : St) (a b : List Rec) : redoS now s (a ++ b) = redoS now (redoS now s a) b := by unfold redoS; rw [List.foldl_append]
theorem do_ok {now : Int} {s : St} {r : Rec} (h : Ok s) (ht : tickB now = true) (hm : may r = true) (hi : r.id < 18446744073709551616) : Ok (doRec now s r) := by
  unfold doRec
  split
  · rename_i h1; exact ok_put h hi (may_put hm h1 ht)
  · exact ok_commit h ht
/-- how many versions records may add -/
def prs : List Rec → Nat
  | [] => 0
  | r :: l => r.pairs.length + prs l
theorem prs_app : ∀ (a b : List Rec), prs (a ++ b) = prs a + prs b
  | [], b => by simp [prs]
  | r :: a, b => by have := prs_app a b; simp only [List.cons_append, prs]; omega
theorem prs_take (rs : List Rec) (k : Nat) (h : k < rs.length) : prs (rs.take (k + 1)) = prs (rs.take k) + (rs.getD k c0).pairs.length := by
  rw [take_succ_getD rs k c0 h, prs_app]; rfl
theorem prs_le (rs : List Rec) (k : Nat) : prs (rs.take k) ≤ prs rs := by
  have := prs_app (rs.take k) (rs.drop k)
  rw [List.take_append_drop] at this
  omega
theorem layP_len : ∀ l : List Pr, 8 * l.length ≤ (layP l).length
  | [] => by simp [layP]
  | p :: l => by
    have := layP_len l
    simp only [layP, List.flatMap_cons, List.length_append, List.length_cons] at this ⊢
    have e : (layP1 p).length ≥ 8 := by unfold layP1; rw [List.length_append, txt_length, txt_length]; omega
    omega
theorem pairs_enc {r : Rec} (h : may r = true) : r.pairs.length ≤ (enc r).length := by
  obtain ⟨hi, hc⟩ := may_parts h
  rcases hc with ⟨h1, _⟩ | ⟨_, h2, _⟩
  · rw [enc_length]
    unfold body layF
    rw [if_pos h1]
    simp only [List.length_append]
    have := layP_len r.pairs
    omega
  · rw [h2]; simp
theorem Run.all {b : List Nat} (hb : ∀ c ∈ b, c < 256) {l : List Rec} {k : Nat} (h : Run b l k) : (∀ r ∈ l, may r = true ∧ r.id < 18446744073709551616) ∧ prs l ≤ k := by
  induction h with
  | nil => exact ⟨(fun r hr => by cases hr), by simp [prs]⟩
  | snoc hr hp ih =>
    have hb' := parse_back (fun c hc => hb c (List.mem_of_mem_drop hc)) hp
    refine ⟨fun r hr' => ?_, ?_⟩
    · rcases List.mem_append.1 hr' with h1 | h1
      · exact ih.1 r h1
      · simp at h1; subst h1; exact ⟨hb'.1, hb'.2.1⟩
    · rw [prs_app]
      have := pairs_enc hb'.1
      have e := hb'.2.2.2.1
      simp only [prs]
      have := ih.2
      omega

/-- what the log goes on from -/
def hasSnap (t : Dk.St) : Bool := (Dk.find snapB t.fs).isSome
def baseD (t : Dk.St) : Dk.St := if hasSnap t = true then Dk.tick t else t
def bsS (t : Dk.St) : List Nat := nts (Dk.readB snapB (Dk.tick t))
def snOk (now : Int) (b : List Nat) : Bool := sumOk b && rdOk now b
def baseE (now : Int) (t : Dk.St) : Int := if hasSnap t = true then (if (Dk.tick t).off = true then 62 else if snOk now (bsS t) = true then 0 else 140) else 0
def baseG (t : Dk.St) : Nat := if hasSnap t = true then rdG (bsS t) else 0
def baseS (now : Int) (t : Dk.St) : St := if hasSnap t = true then rdS now (bsS t) else St.new
/-- all other files deleted -/
def sweepS (g : Dk.Nm) : List Dk.Nm → Dk.St → Dk.St × Int
  | [], t => (t, 0)
  | n :: r, t => if n = snapB ∨ n = g then sweepS g r t else if (Dk.counted t (Dk.deleteOn n)).2 = 0 then sweepS g r (Dk.counted t (Dk.deleteOn n)).1 else Dk.counted t (Dk.deleteOn n)
def swept (t : Dk.St) : Dk.St × Int := sweepS (logB (baseG t)) (Dk.names t.fs) (baseD t)
/-- Open: the disk behind it, the error, the generation, the store, the log's size -/
inductive Boot (now : Int) (s : Dk.St) : Dk.St → Int → Nat → St → Nat → Prop
  | list (h : (Dk.tick s).off = true) : Boot now s (Dk.tick s) 62 0 St.new 0
  | base (h : (Dk.tick s).off = false) (hb : baseE now (Dk.tick s) ≠ 0) : Boot now s (baseD (Dk.tick s)) (baseE now (Dk.tick s)) 0 St.new 0
  | sweep (h : (Dk.tick s).off = false) (hb : baseE now (Dk.tick s) = 0) (hs : (swept (Dk.tick s)).2 ≠ 0) : Boot now s (swept (Dk.tick s)).1 (swept (Dk.tick s)).2 0 St.new 0
  | wal (h : (Dk.tick s).off = false) (hb : baseE now (Dk.tick s) = 0) (hs : (swept (Dk.tick s)).2 = 0) {s' : Dk.St} {E : Int} (ho : Opn (logB (baseG (Dk.tick s))) (swept (Dk.tick s)).1 s' E 0 []) (hE : E ≠ 0) : Boot now s s' E 0 St.new 0
  | ok (h : (Dk.tick s).off = false) (hb : baseE now (Dk.tick s) = 0) (hs : (swept (Dk.tick s)).2 = 0) {s' : Dk.St} {k : Nat} {rs : List Rec} (ho : Opn (logB (baseG (Dk.tick s))) (swept (Dk.tick s)).1 s' 0 k rs) : Boot now s s' 0 (baseG (Dk.tick s)) (redoS now (baseS now (Dk.tick s)) rs) k
theorem Boot.one {now : Int} {s s1 s2 : Dk.St} {e1 e2 : Int} {g1 g2 : Nat} {t1 t2 : St} {k1 k2 : Nat} (h1 : Boot now s s1 e1 g1 t1 k1) (h2 : Boot now s s2 e2 g2 t2 k2) : s1 = s2 ∧ e1 = e2 ∧ g1 = g2 ∧ t1 = t2 ∧ k1 = k2 := by
  cases h1 with
  | list h => cases h2 <;> first | exact ⟨rfl, rfl, rfl, rfl, rfl⟩ | (rename_i h' _; rw [h] at h'; cases h') | (rename_i h' _ _; rw [h] at h'; cases h') | (rename_i h' _ _ _; rw [h] at h'; cases h') | (rename_i h' _ _ _ _; rw [h] at h'; cases h') | simp_all
  | base h hb => cases h2 <;> first | exact ⟨rfl, rfl, rfl, rfl, rfl⟩ | simp_all
  | sweep h hb hs => cases h2 <;> first | exact ⟨rfl, rfl, rfl, rfl, rfl⟩ | simp_all
  | wal h hb hs ho hE =>
    cases h2 with
    | list h' => simp_all
    | base h' hb' => simp_all
    | sweep _ _ hs' => simp_all
    | wal _ _ _ ho' _ => obtain ⟨e1, e2, _⟩ := ho.one ho'; exact ⟨e1, e2, rfl, rfl, rfl⟩
    | ok _ _ _ ho' => obtain ⟨_, e2, _⟩ := ho.one ho'; exact absurd e2 hE
  | ok h hb hs ho =>
    cases h2 with
    | list h' => simp_all
    | base h' hb' => simp_all
    | sweep _ _ hs' => simp_all
    | wal _ _ _ ho' hE => obtain ⟨_, e2, _⟩ := ho.one ho'; exact absurd e2.symm hE
    | ok _ _ _ ho' => obtain ⟨e1, _, e3, e4⟩ := ho.one ho'; exact ⟨e1, rfl, rfl, by rw [e4], e3⟩
end Go.Proofs.YtdemoghlibnooaaGreatDoor
