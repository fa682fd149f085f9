import Derived.Test.YtbkfalaicocopaaDoorCalls
import Derived.Lib.SlBytesConst
import Derived.Lib.SliceRun
namespace Go.Proofs.YtbkfalaicocopaaDoor
open Go.RowKit
open Crc

theorem TabIn.alloc {w : World} (h : TabIn w) (o : Obj) : TabIn (w.alloc o) := fun k hk => Lib.cell?_alloc_some o (h k hk)
theorem TabIn.below {w w' : World} (h : TabIn w) (hb : Below w.heap.size w w') : TabIn w' := fun k hk => cell_later hb (h k hk)

def cellsOf (bs : List Nat) : Array Value := (bs.map fun c => Value.int .u8 (c : Nat)).toArray
theorem row_new (w : World) (C : Array Value) (bs : List Nat) (hC : C = cellsOf bs) (t : TypeId) (fr : Nat × Nat) (h : ∀ c ∈ bs, c < 256) (hl : bs.length ≤ 1000) :
    Row (w.alloc (.cells C t fr)) (some ⟨w.heap.size, 0, none⟩) bs := by
  refine ⟨h, by omega, .inr ⟨_, _, rfl, fun j hj => ?_⟩⟩
  rw [Nat.zero_add, World.cell?_alloc_mark, hC]
  simp [cellsOf, hj]

set_option maxRecDepth 10000 in
theorem v1 : sum [49, 50, 51, 52] = 2615402659 := by decide
set_option maxRecDepth 10000 in
theorem v2 : sum [53, 54, 55, 56, 57] = 320708720 := by decide
set_option maxRecDepth 10000 in
theorem v3 : sum [49, 50, 51, 52, 53, 54, 55, 56, 57] = 3421780262 := by decide
set_option maxRecDepth 10000 in
theorem v4 : update 2615402659 [53, 54, 55, 56, 57] = 3421780262 := by decide
set_option maxRecDepth 10000 in
theorem v5 : join 2615402659 320708720 5 = 3421780262 := by decide
theorem v6 : fnv 14695981039346656037 (nats ⟨#[97]⟩) = 12638187200555641996 := by decide
theorem v7 : fnv 14695981039346656037 (nats ⟨#[102, 111]⟩) = 619342838404076354 := by decide
theorem v8 : fnv 619342838404076354 (nats ⟨#[111, 98, 97, 114]⟩) = 9625390261332436968 := by decide

/-- the bytes of a constant, just laid -/
theorem sum_lit (w : World) (bs : List Nat) (C : Array Value) (n cap b : Nat) (fr : Nat × Nat) (v : Nat) (hn : n = bs.length) (hb : b = w.heap.size) (hC : C = cellsOf bs) (hby : ∀ c ∈ bs, c < 256) (hl : bs.length ≤ 1000) (hv : sum bs = v) (ht : TabIn w) :
    Calls Tryd.prog 10 #[.slice (some ⟨b, 0, none⟩) n cap] (w.alloc (.cells C 5 fr)) fun e w' => e = .returned (.int .u32 (v : Nat)) ∧ w.alloc (.cells C 5 fr) = w' := by
  subst hn hb hv
  exact (sum_any _ bs cap _ (ht.alloc _) (row_new w C bs hC 5 fr hby hl)).mono fun _ _ ⟨he, hw⟩ => ⟨he, hw.symm⟩
theorem update_lit (w : World) (s : Nat) (bs : List Nat) (C : Array Value) (n cap b : Nat) (fr : Nat × Nat) (v : Nat) (hs : s < 4294967296) (hn : n = bs.length) (hb : b = w.heap.size) (hC : C = cellsOf bs) (hby : ∀ c ∈ bs, c < 256) (hl : bs.length ≤ 1000) (hv : update s bs = v) (ht : TabIn w) :
    Calls Tryd.prog 9 #[.int .u32 (s : Nat), .slice (some ⟨b, 0, none⟩) n cap] (w.alloc (.cells C 5 fr)) fun e w' => e = .returned (.int .u32 (v : Nat)) ∧ w.alloc (.cells C 5 fr) = w' := by
  subst hn hb hv
  exact (update_any s _ bs cap hs _ (ht.alloc _) (row_new w C bs hC 5 fr hby hl)).mono fun _ _ ⟨he, hw⟩ => ⟨he, hw.symm⟩

theorem begin_lit (w : World) : Calls Tryd.prog 15 #[] w fun e w' => e = .returned (.int .u64 (14695981039346656037 : Nat)) ∧ w = w' :=
  (begin_any w).mono fun _ _ ⟨he, hw⟩ => ⟨he, hw.symm⟩
theorem join_lit (a b m v : Nat) (hv : join a b m = v) (ha : a < 4294967296) (hb : b < 4294967296) (hm : m < 1000) (w : World) (ht : TabIn w) :
    Calls Tryd.prog 8 #[.int .u32 (a : Nat), .int .u32 (b : Nat), .int .i64 (m : Nat)] w fun e w' => e = .returned (.int .u32 (v : Nat)) ∧ w = w' := by
  subst hv
  exact (join_any a b m ha hb (by omega) (by omega) w ht).mono fun _ _ ⟨he, hw⟩ => ⟨he, hw.symm⟩
theorem hash_lit (s : ByteArray) (v : Nat) (w : World) (hv : fnv 14695981039346656037 (nats s) = v) (hs : s.size ≤ 1000) :
    Calls Tryd.prog 14 #[.string s] w fun e w' => e = .returned (.int .u64 (v : Nat)) ∧ w = w' := by
  subst hv
  exact (hash_any s w (by unfold maxLen; omega)).mono fun _ _ ⟨he, hw⟩ => ⟨he, hw.symm⟩
theorem feed_lit (h : Nat) (s : ByteArray) (v : Nat) (w : World) (hv : fnv h (nats s) = v) (hh : h < 18446744073709551616) (hs : s.size ≤ 1000) :
    Calls Tryd.prog 13 #[.int .u64 (h : Nat), .string s] w fun e w' => e = .returned (.int .u64 (v : Nat)) ∧ w = w' := by
  subst hv
  exact (feed_any h s hh w (by unfold maxLen; omega)).mono fun _ _ ⟨he, hw⟩ => ⟨he, hw.symm⟩

set_option maxHeartbeats 1000000 in
theorem alive_any (w : World) (ht : TabIn w) :
    Calls Tryd.prog 7 #[] w fun e w' => e = .returned (.bool true) ∧ Below w.heap.size w w' := by
  have kc := fun (w : World) (C : Array Value) (n c : Nat) => Lib.run_convert_bytes_const (P := Tryd.prog) w 25 5 C n c Tryd.underlying25 Tryd.underlying5
  have kc1 : ∀ (w : World) (o : Obj) (C : Array Value) (n c : Nat), (convert 25 25 (.slice (some ⟨w.heap.size + 1, 0, none⟩) n c)).run Tryd.prog ((w.alloc o).alloc (.cells C 5)) = .ok (.slice (some ⟨w.heap.size + 1, 0, none⟩) n c) ((w.alloc o).alloc (.cells C 5 (C.size, C.size + 1))) :=
    fun w o C n c => by have := kc (w.alloc o) C n c; simpa using this
  have kc2 : ∀ (w : World) (o o2 : Obj) (C : Array Value) (n c : Nat), (convert 25 25 (.slice (some ⟨w.heap.size + 2, 0, none⟩) n c)).run Tryd.prog (((w.alloc o).alloc o2).alloc (.cells C 5)) = .ok (.slice (some ⟨w.heap.size + 2, 0, none⟩) n c) (((w.alloc o).alloc o2).alloc (.cells C 5 (C.size, C.size + 1))) :=
    fun w o o2 C n c => by have := kc ((w.alloc o).alloc o2) C n c; simpa using this
  have kc3 : ∀ (w : World) (o o2 o3 : Obj) (C : Array Value) (n c : Nat), (convert 25 25 (.slice (some ⟨w.heap.size + 3, 0, none⟩) n c)).run Tryd.prog ((((w.alloc o).alloc o2).alloc o3).alloc (.cells C 5)) = .ok (.slice (some ⟨w.heap.size + 3, 0, none⟩) n c) ((((w.alloc o).alloc o2).alloc o3).alloc (.cells C 5 (C.size, C.size + 1))) :=
    fun w o o2 o3 C n c => by have := kc (((w.alloc o).alloc o2).alloc o3) C n c; simpa using this
  have ht1 := fun o => ht.alloc o
  have ht2 := fun o1 o2 => (ht1 o1).alloc o2
  have ht3 := fun o1 o2 o3 => (ht2 o1 o2).alloc o3
  have ht4 := fun o1 o2 o3 o4 => (ht3 o1 o2 o3).alloc o4
  go_enter Tryd.func7, Tryd.ntmps7
  go_wp2_with fail
  refine (sum_lit w [49, 50, 51, 52] _ 4 4 _ _ 2615402659 rfl (by simp) rfl (by decide) (by decide) v1 ht).mono ?_
  rintro e w' ⟨rfl, rfl⟩
  go_wp2_with fail
  refine (sum_lit _ [53, 54, 55, 56, 57] _ 5 5 _ _ 320708720 rfl (by simp) rfl (by decide) (by decide) v2 (ht1 _)).mono ?_
  rintro e w' ⟨rfl, rfl⟩
  go_wp2_with fail
  refine (sum_lit _ [49, 50, 51, 52, 53, 54, 55, 56, 57] _ 9 9 _ _ 3421780262 rfl (by simp) rfl (by decide) (by decide) v3 (ht2 _ _)).mono ?_
  rintro e w' ⟨rfl, rfl⟩
  go_wp2_with fail
  refine (update_lit _ 2615402659 [53, 54, 55, 56, 57] _ 5 5 _ _ 3421780262 (by decide) rfl (by simp) rfl (by decide) (by decide) v4 (ht3 _ _ _)).mono ?_
  rintro e w' ⟨rfl, rfl⟩
  go_wp2_with fail
  refine (join_lit 2615402659 320708720 5 _ v5 (by decide) (by decide) (by decide) _ (ht4 _ _ _ _)).mono ?_
  rintro e w' ⟨rfl, rfl⟩
  go_wp2_with fail
  refine (hash_lit ⟨#[97]⟩ _ _ v6 (by decide)).mono ?_
  rintro e w' ⟨rfl, rfl⟩
  go_wp2_with fail
  refine (begin_lit _).mono ?_
  rintro e w' ⟨rfl, rfl⟩
  go_wp2_with fail
  refine (hash_lit ⟨#[102, 111]⟩ _ _ v7 (by decide)).mono ?_
  rintro e w' ⟨rfl, rfl⟩
  go_wp2_with fail
  refine (feed_lit _ ⟨#[111, 98, 97, 114]⟩ _ _ v8 (by decide) (by decide)).mono ?_
  rintro e w' ⟨rfl, rfl⟩
  go_wp2_with fail
  go_ret
  exact ⟨rfl, ((((Below.refl _ _).alloc (Nat.le_refl _) _).alloc (by simp) _).alloc (by simp; omega) _).alloc (by simp; omega) _⟩
end Go.Proofs.YtbkfalaicocopaaDoor
