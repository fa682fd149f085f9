/- strings.Builder. -/
import Derived.Test.YtjkljljmjjnneaaGreatDoorA0
import Derived.Test.YtjkljljmjjnneaaGreatDoorShelf
import Derived.Shelf.Strings.BuilderK
namespace Go.Proofs.YtjkljljmjjnneaaGreatDoor
open Go.RowKit Go.Sort Orl Go.Shelf
set_option linter.unusedVariables false
set_option linter.unusedSimpArgs false

def bldR : Go.Shelf.Ren := ⟨fun | 166 => 59 | 167 => 39 | 169 => 25 | 240 => 61 | 276 => 76 | n => n, fun | 20 => 20 | 37 => 69 | 70 => 68 | 72 => 71 | 75 => 88 | 80 => 73 | 127 => 91 | 164 => 126 | n => n, fun | n => n⟩
theorem laysWS : Go.Proofs.Lays.n166 Tryz.prog bldR := {
  mixed := by kernel_rfl
  f166 := Tryz.func59.trans (congrArg some (by kernel_rfl))
  f240 := Tryz.func61.trans (congrArg some (by kernel_rfl))
  f276 := Tryz.func76.trans (congrArg some (by kernel_rfl))
  t0 := Tryz.underlying0
  a0 := Tryz.isAgg0
  z0 := Tryz.sizeOf0
  v0 := Tryz.zeroValue0
  t3 := Tryz.underlying3
  a3 := Tryz.isAgg3
  z3 := Tryz.sizeOf3
  v3 := Tryz.zeroValue3
  t4 := Tryz.underlying4
  a4 := Tryz.isAgg4
  z4 := Tryz.sizeOf4
  v4 := Tryz.zeroValue4
  t9 := Tryz.underlying9
  a9 := Tryz.isAgg9
  z9 := Tryz.sizeOf9
  v9 := Tryz.zeroValue9
  t20 := Tryz.underlying20
  a20 := Tryz.isAgg20
  z20 := Tryz.sizeOf20
  v20 := Tryz.zeroValue20
  t37 := Tryz.underlying69
  a37 := Tryz.isAgg69
  z37 := Tryz.sizeOf69
  v37 := Tryz.zeroValue69
  t70 := Tryz.underlying68
  a70 := Tryz.isAgg68
  z70 := Tryz.sizeOf68
  v70 := Tryz.zeroValue68
  t72 := Tryz.underlying71
  a72 := Tryz.isAgg71
  z72 := Tryz.sizeOf71
  v72 := Tryz.zeroValue71
  t75 := Tryz.underlying88
  a75 := Tryz.isAgg88
  z75 := Tryz.sizeOf88
  v75 := Tryz.zeroValue88
  t164 := Tryz.underlying126
  a164 := Tryz.isAgg126
  z164 := Tryz.sizeOf126
  v164 := Tryz.zeroValue126 }
theorem laysWB : Go.Proofs.Lays.n167 Tryz.prog bldR := {
  mixed := by kernel_rfl
  f167 := Tryz.func39.trans (congrArg some (by kernel_rfl))
  f240 := Tryz.func61.trans (congrArg some (by kernel_rfl))
  f276 := Tryz.func76.trans (congrArg some (by kernel_rfl))
  t0 := Tryz.underlying0
  a0 := Tryz.isAgg0
  z0 := Tryz.sizeOf0
  v0 := Tryz.zeroValue0
  t4 := Tryz.underlying4
  a4 := Tryz.isAgg4
  z4 := Tryz.sizeOf4
  v4 := Tryz.zeroValue4
  t5 := Tryz.underlying5
  a5 := Tryz.isAgg5
  z5 := Tryz.sizeOf5
  v5 := Tryz.zeroValue5
  t9 := Tryz.underlying9
  a9 := Tryz.isAgg9
  z9 := Tryz.sizeOf9
  v9 := Tryz.zeroValue9
  t20 := Tryz.underlying20
  a20 := Tryz.isAgg20
  z20 := Tryz.sizeOf20
  v20 := Tryz.zeroValue20
  t37 := Tryz.underlying69
  a37 := Tryz.isAgg69
  z37 := Tryz.sizeOf69
  v37 := Tryz.zeroValue69
  t70 := Tryz.underlying68
  a70 := Tryz.isAgg68
  z70 := Tryz.sizeOf68
  v70 := Tryz.zeroValue68
  t72 := Tryz.underlying71
  a72 := Tryz.isAgg71
  z72 := Tryz.sizeOf71
  v72 := Tryz.zeroValue71
  t75 := Tryz.underlying88
  a75 := Tryz.isAgg88
  z75 := Tryz.sizeOf88
  v75 := Tryz.zeroValue88
  t164 := Tryz.underlying126
  a164 := Tryz.isAgg126
  z164 := Tryz.sizeOf126
  v164 := Tryz.zeroValue126 }
theorem laysST : Go.Proofs.Lays.n169 Tryz.prog bldR := {
  mixed := by kernel_rfl
  f169 := Tryz.func25.trans (congrArg some (by kernel_rfl))
  t0 := Tryz.underlying0
  a0 := Tryz.isAgg0
  z0 := Tryz.sizeOf0
  v0 := Tryz.zeroValue0
  t3 := Tryz.underlying3
  a3 := Tryz.isAgg3
  z3 := Tryz.sizeOf3
  v3 := Tryz.zeroValue3
  t9 := Tryz.underlying9
  a9 := Tryz.isAgg9
  z9 := Tryz.sizeOf9
  v9 := Tryz.zeroValue9
  t37 := Tryz.underlying69
  a37 := Tryz.isAgg69
  z37 := Tryz.sizeOf69
  v37 := Tryz.zeroValue69
  t70 := Tryz.underlying68
  a70 := Tryz.isAgg68
  z70 := Tryz.sizeOf68
  v70 := Tryz.zeroValue68
  t72 := Tryz.underlying71
  a72 := Tryz.isAgg71
  z72 := Tryz.sizeOf71
  v72 := Tryz.zeroValue71
  t127 := Tryz.underlying91
  a127 := Tryz.isAgg91
  z127 := Tryz.sizeOf91
  v127 := Tryz.zeroValue91 }
theorem bldX : Builder.Extra Tryz.prog bldR := {
  sizeBuilder := by kernel_rfl
  liesBuilder := by kernel_rfl
  t5 := Tryz.underlying5
  a5 := Tryz.isAgg5
  z5 := Tryz.sizeOf5
  v5 := Tryz.zeroValue5
  infoByte := by kernel_rfl
  cellsByte := by kernel_rfl
  sizeByte := by kernel_rfl
  neB5 := by decide }
theorem Keeps.belowN {w0 w w' : World} (k : Keeps no w0 w) (h : Below w0.heap.size w w') : Keeps no w0 w' :=
  ⟨h.os.trans k.os, h.tape.trans k.tape, h.output.trans k.output, Nat.le_trans k.size h.size, fun i hi hn => (h.block i hi).trans (k.block i hi hn)⟩
theorem byteCells_app (a b : List UInt8) : Lib.byteCells (a ++ b) = Lib.byteCells a ++ Lib.byteCells b := by simp [Lib.byteCells]
theorem ownsRowF_keepsN {w w' : World} {base : Nat} {e : TypeId} {size : Nat} {v : Value} {n : Nat} {xs : List Value} (h : w.ownsRowF base e size v n xs) (hk : Keeps no w w') : w'.ownsRowF base e size v n xs := by
  rcases h with ⟨h1, h2⟩
  refine ⟨h1, ?_⟩
  rcases h2 with ⟨rfl, h3⟩ | ⟨g, cap, cur, fz, h3, h4, h5, h6⟩
  · exact .inl ⟨rfl, h3⟩
  · exact .inr ⟨g, cap, cur, fz, h3, h4, hk.at h5 id, h6⟩
theorem builderF_keepsN {T e : TypeId} {B b : Nat} {bs : List Value} {w w' : World} (h : Lib.IsBuilderF T e B b bs w) (k : Keeps no w w') : Lib.IsBuilderF T e B b bs w' := by
  have key : ∀ p, Lib.BuilderAtF T e B b p bs w → Lib.BuilderAtF T e B b p bs w' := by
    rintro p ⟨h1, v, h2, h3, h4⟩
    exact ⟨h1, v, k.at h2 id, ownsRowF_keepsN h3 k, h4⟩
  exact h.imp (key _) (key _)
/-- all but the builder and rows of bytes stays -/
def Bo (b : Nat) (w w' : World) : Prop := Lib.OthersKept 5 (some b) w w'
theorem Bo.refl (b : Nat) (w : World) : Bo b w w := Lib.OthersKept.refl _ _ _
theorem Bo.trans {b : Nat} {a c d : World} (h : Bo b a c) (k : Bo b c d) : Bo b a d := Lib.OthersKept.trans h k
theorem Bo.at {b : Nat} {w w' : World} (h : Bo b w w') {k : Nat} {c : Array Value} {t : TypeId} {fz : Nat × Nat} (hk : w.heap[k]? = some (.cells c t fz)) (hb : k ≠ b) (ht : t ≠ 5) : w'.heap[k]? = some (.cells c t fz) :=
  h k _ hk (fun e => hb (by injection e)) (fun c' fz' e => by injection e with _ e _; exact ht e)
theorem Keeps.bo {w w' : World} (k : Keeps no w w') (b : Nat) : Bo b w w' := fun i o hi _ _ => k.at hi id
/-- a builder since w0 -/
structure Bd (w0 w : World) (b : Nat) (acc : List UInt8) : Prop where
  is : Lib.IsBuilderF 71 5 w0.heap.size b (Lib.byteCells acc) w
  kp : Keeps no w0 w
theorem Bd.keepsN {w0 w w' : World} {b : Nat} {acc : List UInt8} (h : Bd w0 w b acc) (k : Keeps no w w') : Bd w0 w' b acc := ⟨builderF_keepsN h.is k, h.kp.trans k⟩
theorem Bd.lt {w0 w : World} {b : Nat} {acc : List UInt8} (h : Bd w0 w b acc) : b < w.heap.size := by
  rcases h.is with h | h <;> exact h.lt
theorem Bd.ge {w0 w : World} {b : Nat} {acc : List UInt8} (h : Bd w0 w b acc) : w0.heap.size ≤ b := by
  rcases h.is with h | h <;> exact h.1
def BdTo (w0 w : World) (b : Nat) (acc out : List UInt8) (v : Value) (e : Ending) (w' : World) : Prop := e = .returned v ∧ Bd w0 w' b (acc ++ out) ∧ Bo b w w'
theorem writeByte_any (w0 w : World) (b : Nat) (acc : List UInt8) (c : UInt8) (h : Bd w0 w b acc) (hl : acc.length + 1 ≤ 140737488355328) :
    Calls Tryz.prog 39 #[.pointer (some ⟨b, 0, none⟩), .int .u8 (c.toNat : Nat)] w (BdTo w0 w b acc [c] .nilIface) := by
  refine (Any.Builder_WriteByte_k laysWB bldX w0.heap.size b (Lib.byteCells acc) (c.toNat : Nat) w h.is (by rw [Lib.byteCells_length]; exact hl) h.kp.size).mono ?_
  rintro e w' ⟨rfl, h1, h2, h3⟩
  refine ⟨rfl, ⟨.inr ?_, h.kp.belowN h2⟩, h3⟩
  rw [byteCells_app]
  exact h1
theorem writeString_any (w0 w : World) (b : Nat) (acc : List UInt8) (s : ByteArray) (h : Bd w0 w b acc) (hl : acc.length + s.size ≤ 140737488355328) :
    Calls Tryz.prog 59 #[.pointer (some ⟨b, 0, none⟩), .string s] w (BdTo w0 w b acc s.data.toList (.tuple #[.int .i64 s.size, .nilIface])) := by
  refine (Any.Builder_WriteString_k laysWS bldX w0.heap.size b (Lib.byteCells acc) s w h.is (by rw [Lib.byteCells_length]; exact hl) h.kp.size).mono ?_
  rintro e w' ⟨rfl, h1, h2, h3⟩
  refine ⟨rfl, ⟨.inr ?_, h.kp.belowN h2⟩, h3⟩
  rw [byteCells_app]
  exact h1
theorem bldString_any (w0 w : World) (b : Nat) (acc : List UInt8) (h : Bd w0 w b acc) :
    Calls Tryz.prog 25 #[.pointer (some ⟨b, 0, none⟩)] w fun e w' => e = .returned (.string ⟨acc.toArray⟩) ∧ Bd w0 w' b acc ∧ Bo b w w' := by
  refine (Any.Builder_String_any_k laysST bldX w0.heap.size b acc w h.is h.kp.size).mono ?_
  rintro e w' ⟨rfl, h1, h2, h3⟩
  exact ⟨rfl, ⟨h1, h.kp.belowN h2⟩, h3⟩
/-- a new builder -/
theorem bd_new (w : World) : Bd w (w.alloc (.cells #[.pointer none, .slice none 0 0] 71)) w.heap.size [] :=
  ⟨.inl ⟨Nat.le_refl _, _, blk_new w _, ⟨rfl, .inl ⟨rfl, rfl⟩⟩, by simp [Value.ownBlock]⟩, (Keeps.refl _ _).alloc _⟩
end Go.Proofs.YtjkljljmjjnneaaGreatDoor
