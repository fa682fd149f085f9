/- strings.Builder. -/
import Derived.Test.YtjkljljmjjnneaaDoorA0
import Derived.Test.YtjkljljmjjnneaaDoorShelf
import Derived.Shelf.Strings.BuilderK
namespace Go.Proofs.YtjkljljmjjnneaaDoor
open Go.RowKit Go.Sort Orl Go.Shelf
set_option linter.unusedVariables false
set_option linter.unusedSimpArgs false

def bldR : Go.Shelf.Ren := ⟨fun | 166 => 49 | 167 => 34 | 169 => 20 | 240 => 51 | 276 => 68 | n => n, fun | 20 => 20 | 37 => 30 | 70 => 56 | 72 => 58 | 75 => 88 | 80 => 60 | 127 => 91 | 164 => 124 | n => n, fun | n => n⟩
theorem laysWS : Go.Proofs.Lays.n166 Tryd.prog bldR := {
  mixed := by kernel_rfl
  f166 := Tryd.func49.trans (congrArg some (by kernel_rfl))
  f240 := Tryd.func51.trans (congrArg some (by kernel_rfl))
  f276 := Tryd.func68.trans (congrArg some (by kernel_rfl))
  t0 := Tryd.underlying0
  a0 := Tryd.isAgg0
  z0 := Tryd.sizeOf0
  v0 := Tryd.zeroValue0
  t3 := Tryd.underlying3
  a3 := Tryd.isAgg3
  z3 := Tryd.sizeOf3
  v3 := Tryd.zeroValue3
  t4 := Tryd.underlying4
  a4 := Tryd.isAgg4
  z4 := Tryd.sizeOf4
  v4 := Tryd.zeroValue4
  t9 := Tryd.underlying9
  a9 := Tryd.isAgg9
  z9 := Tryd.sizeOf9
  v9 := Tryd.zeroValue9
  t20 := Tryd.underlying20
  a20 := Tryd.isAgg20
  z20 := Tryd.sizeOf20
  v20 := Tryd.zeroValue20
  t37 := Tryd.underlying30
  a37 := Tryd.isAgg30
  z37 := Tryd.sizeOf30
  v37 := Tryd.zeroValue30
  t70 := Tryd.underlying56
  a70 := Tryd.isAgg56
  z70 := Tryd.sizeOf56
  v70 := Tryd.zeroValue56
  t72 := Tryd.underlying58
  a72 := Tryd.isAgg58
  z72 := Tryd.sizeOf58
  v72 := Tryd.zeroValue58
  t75 := Tryd.underlying88
  a75 := Tryd.isAgg88
  z75 := Tryd.sizeOf88
  v75 := Tryd.zeroValue88
  t164 := Tryd.underlying124
  a164 := Tryd.isAgg124
  z164 := Tryd.sizeOf124
  v164 := Tryd.zeroValue124 }
theorem laysWB : Go.Proofs.Lays.n167 Tryd.prog bldR := {
  mixed := by kernel_rfl
  f167 := Tryd.func34.trans (congrArg some (by kernel_rfl))
  f240 := Tryd.func51.trans (congrArg some (by kernel_rfl))
  f276 := Tryd.func68.trans (congrArg some (by kernel_rfl))
  t0 := Tryd.underlying0
  a0 := Tryd.isAgg0
  z0 := Tryd.sizeOf0
  v0 := Tryd.zeroValue0
  t4 := Tryd.underlying4
  a4 := Tryd.isAgg4
  z4 := Tryd.sizeOf4
  v4 := Tryd.zeroValue4
  t5 := Tryd.underlying5
  a5 := Tryd.isAgg5
  z5 := Tryd.sizeOf5
  v5 := Tryd.zeroValue5
  t9 := Tryd.underlying9
  a9 := Tryd.isAgg9
  z9 := Tryd.sizeOf9
  v9 := Tryd.zeroValue9
  t20 := Tryd.underlying20
  a20 := Tryd.isAgg20
  z20 := Tryd.sizeOf20
  v20 := Tryd.zeroValue20
  t37 := Tryd.underlying30
  a37 := Tryd.isAgg30
  z37 := Tryd.sizeOf30
  v37 := Tryd.zeroValue30
  t70 := Tryd.underlying56
  a70 := Tryd.isAgg56
  z70 := Tryd.sizeOf56
  v70 := Tryd.zeroValue56
  t72 := Tryd.underlying58
  a72 := Tryd.isAgg58
  z72 := Tryd.sizeOf58
  v72 := Tryd.zeroValue58
  t75 := Tryd.underlying88
  a75 := Tryd.isAgg88
  z75 := Tryd.sizeOf88
  v75 := Tryd.zeroValue88
  t164 := Tryd.underlying124
  a164 := Tryd.isAgg124
  z164 := Tryd.sizeOf124
  v164 := Tryd.zeroValue124 }
theorem laysST : Go.Proofs.Lays.n169 Tryd.prog bldR := {
  mixed := by kernel_rfl
  f169 := Tryd.func20.trans (congrArg some (by kernel_rfl))
  t0 := Tryd.underlying0
  a0 := Tryd.isAgg0
  z0 := Tryd.sizeOf0
  v0 := Tryd.zeroValue0
  t3 := Tryd.underlying3
  a3 := Tryd.isAgg3
  z3 := Tryd.sizeOf3
  v3 := Tryd.zeroValue3
  t9 := Tryd.underlying9
  a9 := Tryd.isAgg9
  z9 := Tryd.sizeOf9
  v9 := Tryd.zeroValue9
  t37 := Tryd.underlying30
  a37 := Tryd.isAgg30
  z37 := Tryd.sizeOf30
  v37 := Tryd.zeroValue30
  t70 := Tryd.underlying56
  a70 := Tryd.isAgg56
  z70 := Tryd.sizeOf56
  v70 := Tryd.zeroValue56
  t72 := Tryd.underlying58
  a72 := Tryd.isAgg58
  z72 := Tryd.sizeOf58
  v72 := Tryd.zeroValue58
  t127 := Tryd.underlying91
  a127 := Tryd.isAgg91
  z127 := Tryd.sizeOf91
  v127 := Tryd.zeroValue91 }
theorem bldX : Builder.Extra Tryd.prog bldR := {
  sizeBuilder := by kernel_rfl
  liesBuilder := by kernel_rfl
  t5 := Tryd.underlying5
  a5 := Tryd.isAgg5
  z5 := Tryd.sizeOf5
  v5 := Tryd.zeroValue5
  infoByte := by kernel_rfl
  cellsByte := by kernel_rfl
  sizeByte := by kernel_rfl
  neB5 := by decide }
theorem Keeps.belowN {w0 w w' : World} (k : Keeps no w0 w) (h : Below w0.heap.size w w') : Keeps no w0 w' :=
  ⟨h.os.trans k.os, h.tape.trans k.tape, h.output.trans k.output, Nat.le_trans k.size h.size, fun i hi hn => (h.block i hi).trans (k.block i hi hn)⟩
theorem byteCells_app (a b : List UInt8) : Lib.byteCells (a ++ b) = Lib.byteCells a ++ Lib.byteCells b := by simp [Lib.byteCells]
theorem ownsRowF_keepsN {w w' : World} {base : Nat} {e : TypeId} {size : Nat} {v : Value} {n : Nat} {xs : List Value} (h : w.ownsRowF base e size v n xs) (hk : Keeps no w w') : w'.ownsRowF base e size v n xs := by
  rcases h with ⟨h1, h2⟩
  refine ⟨h1, ?_⟩
  rcases h2 with ⟨rfl, h3⟩ | ⟨g, cap, cur, fz, h3, h4, h5, h6⟩
  · exact .inl ⟨rfl, h3⟩
  · exact .inr ⟨g, cap, cur, fz, h3, h4, hk.at h5 id, h6⟩
theorem builderF_keepsN {T e : TypeId} {B b : Nat} {bs : List Value} {w w' : World} (h : Lib.IsBuilderF T e B b bs w) (k : Keeps no w w') : Lib.IsBuilderF T e B b bs w' := by
  have key : ∀ p, Lib.BuilderAtF T e B b p bs w → Lib.BuilderAtF T e B b p bs w' := by
    rintro p ⟨h1, v, h2, h3, h4⟩
    exact ⟨h1, v, k.at h2 id, ownsRowF_keepsN h3 k, h4⟩
  exact h.imp (key _) (key _)
/-- all but the builder and rows of bytes stays -/
def Bo (b : Nat) (w w' : World) : Prop := Lib.OthersKept 5 (some b) w w'
theorem Bo.refl (b : Nat) (w : World) : Bo b w w := Lib.OthersKept.refl _ _ _
theorem Bo.trans {b : Nat} {a c d : World} (h : Bo b a c) (k : Bo b c d) : Bo b a d := Lib.OthersKept.trans h k
theorem Bo.at {b : Nat} {w w' : World} (h : Bo b w w') {k : Nat} {c : Array Value} {t : TypeId} {fz : Nat × Nat} (hk : w.heap[k]? = some (.cells c t fz)) (hb : k ≠ b) (ht : t ≠ 5) : w'.heap[k]? = some (.cells c t fz) :=
  h k _ hk (fun e => hb (by injection e)) (fun c' fz' e => by injection e with _ e _; exact ht e)
theorem Keeps.bo {w w' : World} (k : Keeps no w w') (b : Nat) : Bo b w w' := fun i o hi _ _ => k.at hi id
/-- a builder since w0 -/
structure Bd (w0 w : World) (b : Nat) (acc : List UInt8) : Prop where
  is : Lib.IsBuilderF 58 5 w0.heap.size b (Lib.byteCells acc) w
  kp : Keeps no w0 w
theorem Bd.keepsN {w0 w w' : World} {b : Nat} {acc : List UInt8} (h : Bd w0 w b acc) (k : Keeps no w w') : Bd w0 w' b acc := ⟨builderF_keepsN h.is k, h.kp.trans k⟩
theorem Bd.lt {w0 w : World} {b : Nat} {acc : List UInt8} (h : Bd w0 w b acc) : b < w.heap.size := by
  rcases h.is with h | h <;> exact h.lt
theorem Bd.ge {w0 w : World} {b : Nat} {acc : List UInt8} (h : Bd w0 w b acc) : w0.heap.size ≤ b := by
  rcases h.is with h | h <;> exact h.1
def BdTo (w0 w : World) (b : Nat) (acc out : List UInt8) (v : Value) (e : Ending) (w' : World) : Prop := e = .returned v ∧ Bd w0 w' b (acc ++ out) ∧ Bo b w w'
theorem writeByte_any (w0 w : World) (b : Nat) (acc : List UInt8) (c : UInt8) (h : Bd w0 w b acc) (hl : acc.length + 1 ≤ 140737488355328) :
    Calls Tryd.prog 34 #[.pointer (some ⟨b, 0, none⟩), .int .u8 (c.toNat : Nat)] w (BdTo w0 w b acc [c] .nilIface) := by
  refine (Any.Builder_WriteByte_k laysWB bldX w0.heap.size b (Lib.byteCells acc) (c.toNat : Nat) w h.is (by rw [Lib.byteCells_length]; exact hl) h.kp.size).mono ?_
  rintro e w' ⟨rfl, h1, h2, h3⟩
  refine ⟨rfl, ⟨.inr ?_, h.kp.belowN h2⟩, h3⟩
  rw [byteCells_app]
  exact h1
theorem writeString_any (w0 w : World) (b : Nat) (acc : List UInt8) (s : ByteArray) (h : Bd w0 w b acc) (hl : acc.length + s.size ≤ 140737488355328) :
    Calls Tryd.prog 49 #[.pointer (some ⟨b, 0, none⟩), .string s] w (BdTo w0 w b acc s.data.toList (.tuple #[.int .i64 s.size, .nilIface])) := by
  refine (Any.Builder_WriteString_k laysWS bldX w0.heap.size b (Lib.byteCells acc) s w h.is (by rw [Lib.byteCells_length]; exact hl) h.kp.size).mono ?_
  rintro e w' ⟨rfl, h1, h2, h3⟩
  refine ⟨rfl, ⟨.inr ?_, h.kp.belowN h2⟩, h3⟩
  rw [byteCells_app]
  exact h1
theorem bldString_any (w0 w : World) (b : Nat) (acc : List UInt8) (h : Bd w0 w b acc) :
    Calls Tryd.prog 20 #[.pointer (some ⟨b, 0, none⟩)] w fun e w' => e = .returned (.string ⟨acc.toArray⟩) ∧ Bd w0 w' b acc ∧ Bo b w w' := by
  refine (Any.Builder_String_any_k laysST bldX w0.heap.size b acc w h.is h.kp.size).mono ?_
  rintro e w' ⟨rfl, h1, h2, h3⟩
  exact ⟨rfl, ⟨h1, h.kp.belowN h2⟩, h3⟩
/-- a new builder -/
theorem bd_new (w : World) : Bd w (w.alloc (.cells #[.pointer none, .slice none 0 0] 58)) w.heap.size [] :=
  ⟨.inl ⟨Nat.le_refl _, _, blk_new w _, ⟨rfl, .inl ⟨rfl, rfl⟩⟩, by simp [Value.ownBlock]⟩, (Keeps.refl _ _).alloc _⟩
end Go.Proofs.YtjkljljmjjnneaaDoor
