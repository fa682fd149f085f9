/- own, Build, List: contracts in a shorter form. -/
import Derived.Test.YtgamhblkgojapaaGreatDoorGB
namespace Go.Proofs.YtgamhblkgojapaaGreatDoor
open Go.RowKit Pk Dk
set_option linter.unusedVariables false
set_option linter.unusedSimpArgs false

def OwnD (w : World) (k : Int) (i np nk : Nat) (r : Rec) (e : Ending) (w' : World) : Prop :=
  ∃ (v : CV), e = .returned (.agg #[.int .i64 v.k, .int .u64 (v.i : Nat), .slice v.op v.np v.cp, .slice v.ok v.nk v.ck]) ∧ Hid (Got w w' v r) ∧ Hid (Keeps no w w')
theorem own_v (w : World) (v : CV) (r : Rec) (h : IsC w v r) :
    Calls Tryz.prog 11 #[.agg #[.int .i64 v.k, .int .u64 (v.i : Nat), .slice v.op v.np v.cp, .slice v.ok v.nk v.ck]] w (OwnD w v.k v.i v.np v.nk r) := by
  refine (ownR_any w v.k v.i v.op v.np v.cp v.ok v.nk v.ck r h).mono ?_
  rintro e w' ⟨op, cp, ok, ck, rfl, hG, hk⟩
  exact ⟨⟨v.k, v.i, op, v.np, cp, ok, v.nk, ck⟩, rfl, hG, hk⟩
def BuildD (w : World) (r : Rec) (e : Ending) (w' : World) : Prop := ∃ o n c, e = .returned (.tuple #[.slice o n c, .int .i64 ((encE r : Nat) : Int)]) ∧ Hid (n = (encB r).length) ∧ Hid (Owns w' o c (encB r)) ∧ Hid (New w o) ∧ Hid (Keeps no w w')
theorem build_v (w : World) (v : CV) (r : Rec) (h : IsC w v r) (ht : TabIn w) :
    Calls Tryz.prog 40 #[.agg #[.int .i64 v.k, .int .u64 (v.i : Nat), .slice v.op v.np v.cp, .slice v.ok v.nk v.ck]] w (BuildD w r) := by
  refine (Build_any w v.k v.i v.op v.np v.cp v.ok v.nk v.ck r h ht).mono ?_
  rintro e w' ⟨o, n, c, rfl, h1, h2, h3, h4⟩
  exact ⟨o, n, c, rfl, h1, h2, h3, h4⟩
def ListD (w0 w : World) (p : Nat) (F : Nat → Prop) (s' : St) (m : Nat) (er : Int) (e : Ending) (w' : World) : Prop := ∃ o c, e = .returned (.tuple #[.slice o m c, .int .i64 er]) ∧ Hid (Dn w0 w' p F s') ∧ Hid (Keeps F w w')
theorem dn_list {w0 w : World} {p : Nat} {F : Nat → Prop} {s s' : St} {m : Nat} {er : Int} (h : Dn w0 w p F s) (hA : tick s = s') (hB : (listN s').length = m) (hE : listE s' = er) :
    Calls Tryz.prog 52 #[.pointer (some ⟨p, 0, none⟩)] w (ListD w0 w p F s' m er) := by
  refine (list_any w p F s h.is).mono ?_
  rintro e w' ⟨o, c, m', rfl, hm, ho, hnw, hi, hk⟩
  rw [hA] at hi hm ⊢
  rw [hB] at hm
  obtain rfl : m' = m := hm.out
  rw [hE]
  exact ⟨o, c, rfl, h.same hi hk, hk⟩

end Go.Proofs.YtgamhblkgojapaaGreatDoor
