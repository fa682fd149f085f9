/- The document's piece. -/
import Derived.Test.YtdalheeifgampabDoorE6
namespace Go.Proofs.YtdalheeifgampabDoor
open Go.RowKit Go.Sort Orl Pk
set_option linter.unusedVariables false
set_option linter.unusedSimpArgs false

/-- what piece tells -/
def PieceTo (w : World) (b : List Nat) (a : Nat) (e : Ending) (w' : World) : Prop :=
  ∃ (s : Tx) (t : Nat), e = .returned (.tuple #[.string s, .int .i64 (t : Nat)]) ∧ Hid (s = text (pieceP b a).1 ∧ t = (pieceP b a).2) ∧ w' = w

set_option maxRecDepth 10000 in
theorem dPiece_any (w : World) (o : Option Addr) (n c : Nat) (b : List Nat) (a : Nat) (hn : n = b.length) (hs : BSl w o c b) (ha : (a : Int) ≤ 549755813888) (hnb : (n : Int) ≤ 1099511627776) :
    Calls Tryd.prog 36 #[.slice o n c, .int .i64 (a : Nat)] w (PieceTo w b a) := by
  have HN : Hid (n = b.length) := hn
  have HGL : Hid (getP b a 4 < 4294967296) := getP_lt hs.row.1 a 4
  have HG : Hid (pieceP b a = ((b.take (min (min (a + 4) n + getP b a 4) n)).drop (min (a + 4) n), a + 4 + getP b a 4)) := by show _ = _; unfold pieceP; rw [hn]
  have HS : Hid (BSl w o c b) := hs
  clear hn hs
  go_enter Tryd.func36, Tryd.ntmps36
  go_wp2_with fail
  refine (dGet_any w o n c b a 4 HN.out HS.out.row (by omega) hnb (by omega)).mono ?_
  rintro e w1 ⟨rfl, hw1⟩
  subst w1
  generalize getP b a 4 = v at HGL HG ⊢
  have hvI : (v : Int) ≤ 4294967295 := by have := HGL.out; omega
  clear HGL
  obtain ⟨F, hF⟩ : ∃ F, F = min (a + 4) n := ⟨_, rfl⟩
  obtain ⟨T, hT⟩ : ∃ T, T = min (F + v) n := ⟨_, rfl⟩
  rw [← hF, ← hT] at HG
  have hFI : min ((a : Int) + 4) (n : Int) = (F : Int) := by omega
  have hTI : min ((F : Int) + (v : Int)) (n : Int) = (T : Int) := by omega
  have hFT : F ≤ T ∧ T ≤ n := by omega
  obtain ⟨A, d, hcut, hslA⟩ := cutLH w o c b n F T HN.out hFT.1 hFT.2 HS.out
  have hFb : (F : Int) ≤ 1099511627776 := by omega
  have hTb : (T : Int) ≤ 1099511627776 := by omega
  have hcv := run_text w A ((b.take T).drop F) (T - F) d (by rw [List.length_drop, List.length_take, ← HN.out]; omega) hslA.row
  clear hF hT hslA hFT
  generalize hTF : T - F = TF at hcut hcv
  have hTFb : (TF : Int) ≤ 1099511627776 := by omega
  clear hTF
  go_wp2_with fail
  go_ret2
  refine ⟨_, a + 4 + v, rfl, ⟨by rw [HG.out], by rw [HG.out]⟩, rfl⟩
theorem owns_len {w : World} {o : Option Addr} {c : Nat} {bs : List Nat} (h : Owns w o c bs) : bs.length ≤ 9223372036854775807 := by
  rcases h.shape with ⟨_, _, rfl⟩ | ⟨g, cur, _, _, h1, h2, _⟩
  · simp
  · unfold maxLen at h2; omega
end Go.Proofs.YtdalheeifgampabDoor
