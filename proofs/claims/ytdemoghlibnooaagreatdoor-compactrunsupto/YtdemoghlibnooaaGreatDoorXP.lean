import Derived.Test.YtdemoghlibnooaaGreatDoorG3
import Derived.Test.YtdemoghlibnooaaGreatDoorBC
import Derived.Lib.ItoaLen
namespace Go.Proofs.YtdemoghlibnooaaGreatDoor
open Go.RowKit Orl Pk Go.Sort
set_option linter.unusedVariables false
set_option linter.unusedSimpArgs false
def snapN : Tx := ⟨#[115, 110, 97, 112]⟩
def stemB : List UInt8 := [108, 111, 103, 46]
def logN (g : Int) : Tx := ⟨(stemB ++ Lib.itoa g).toArray⟩
def snapB : Dk.Nm := snapN.data.toList
def logB (g : Int) : Dk.Nm := (logN g).data.toList
theorem logB_eq (g : Int) : logB g = stemB ++ Lib.itoa g := by simp [logB, logN]
theorem log_ne (g : Int) : logB g ≠ snapB := by
  rw [logB_eq]
  intro h
  have := congrArg List.head? h
  simp [stemB, snapB, snapN] at this
theorem snap_good : Dk.good snapB = true := by decide
theorem log_good {g : Int} (h0 : -9223372036854775808 ≤ g) (h1 : g ≤ 9223372036854775807) : Dk.good (logB g) = true := by
  have := Lib.itoa_length_le g h0 h1
  rw [logB_eq]
  unfold Dk.good
  simp [stemB]
  omega
theorem logN_size {g : Int} (h0 : -9223372036854775808 ≤ g) (h1 : g ≤ 9223372036854775807) : (logN g).size ≤ 25 := by
  have := Lib.itoa_length_le g h0 h1
  have e : (logN g).size = (stemB ++ Lib.itoa g).length := by simp [logN, ByteArray.size]
  rw [e]
  simp [stemB]
  omega
theorem may_put {r : Rec} (h : may r = true) (h1 : r.kind = 1) {now : Int} (ht : tickB now = true) : okPut r.id r.pairs r.keys now = true := by
  obtain ⟨hi, hc⟩ := may_parts h
  rcases hc with ⟨_, hk, hp⟩ | ⟨h2, _⟩
  · have a := mayK_all hk
    unfold mayP at hp
    simp only [Bool.and_eq_true, decide_eq_true_eq, List.all_eq_true] at hp
    obtain ⟨p1, p2, p3, p4⟩ := hp
    unfold okPut okKeys okPairs
    simp only [Bool.and_eq_true, decide_eq_true_eq, List.all_eq_true]
    refine ⟨hi, ⟨⟨⟨a.2.1, a.1⟩, a.2.2.1⟩, a.2.2.2⟩, ⟨fun p hp' => ⟨p2 p hp', p4 _ (List.mem_map_of_mem hp')⟩, by omega, ?_⟩, ht⟩
    have := rising_map (fun p : Pr => p.1) lts r.pairs
    show rising (fun p q : Pr => lts p.1 q.1) r.pairs = true
    rw [this]
    exact p3
  · rw [h1] at h2; cases h2
theorem may_com {r : Rec} (h : may r = true) (h1 : r.kind ≠ 1) : r.kind = 2 ∧ 65536 ≤ r.id := by
  obtain ⟨hi, hc⟩ := may_parts h
  rcases hc with ⟨e, _⟩ | ⟨e, _⟩
  · exact absurd e h1
  · exact ⟨e, hi⟩
def doRec (now : Int) (s : St) (r : Rec) : St := if r.kind = 1 then putAll r.id r.keys now s (miss s r.id r.pairs) else commitS s r.id now
theorem do_ok {now : Int} {s : St} {r : Rec} (h : Ok s) (ht : tickB now = true) (hm : may r = true) (hi : r.id < 18446744073709551616) : Ok (doRec now s r) := by
  unfold doRec
  split
  · rename_i h1; exact ok_put h hi (may_put hm h1 ht)
  · exact ok_commit h ht
def prs : List Rec → Nat
  | [] => 0
  | r :: l => r.pairs.length + prs l
end Go.Proofs.YtdemoghlibnooaaGreatDoor
