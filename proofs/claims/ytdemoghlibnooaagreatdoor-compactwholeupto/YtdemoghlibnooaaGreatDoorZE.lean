import Derived.Test.YtdemoghlibnooaaGreatDoorZY
import Derived.Test.YtdemoghlibnooaaGreatDoorZV
/- CompactWhole: rounds in memory; what a round holds. -/
namespace Go.Proofs.YtdemoghlibnooaaGreatDoor
open Go.RowKit Go.Maps Go.Sort Orl Pk
set_option linter.unusedVariables false
set_option linter.unusedSimpArgs false

def ov0 : OV := ⟨0, 0, 0, 0, e0⟩
def OE : El OV := ⟨50, 39, 5, 40, fun x => [.int .i64 x.k, .int .u64 ((x.i : Nat) : Int), .int .u8 ((x.a : Nat) : Int), .int .u8 ((x.b : Nat) : Int), .string x.v]⟩
theorem infoO : (Tryz.prog.info? 50).map (fun i => (i.zero, i.size, i.bytes)) = some (some (.agg #[.int .i64 0, .int .u64 0, .int .u8 0, .int .u8 0, .string ⟨#[]⟩]), 5, 40) := by kernel_rfl
theorem okO : OE.Ok := by
  obtain ⟨i0, hi, hz0, hz1, hz2⟩ := info_parts infoO
  exact ⟨fun _ => rfl, fun x u hu => by simp [OE] at hu; rcases hu with rfl | rfl | rfl | rfl | rfl <;> rfl, by decide, Tryz.underlying39, i0, _, hi, hz0, hz1, hz2, rfl⟩
theorem atO {w : World} {a : Option Addr} {c : Nat} {xs : List OV} (h : Sl OE w a c xs) {j : Nat} (hj : j < xs.length) : ∃ b off, a = some ⟨b, off, none⟩ ∧ w.cell? ⟨b, off + j * 5, none⟩ = some (.int .i64 (xs.getD j ov0).k) ∧ w.cell? ⟨b, off + j * 5 + 1, none⟩ = some (.int .u64 (((xs.getD j ov0).i : Nat) : Int)) ∧ w.cell? ⟨b, off + j * 5 + 2, none⟩ = some (.int .u8 (((xs.getD j ov0).a : Nat) : Int)) ∧ w.cell? ⟨b, off + j * 5 + 3, none⟩ = some (.int .u8 (((xs.getD j ov0).b : Nat) : Int)) ∧ w.cell? ⟨b, off + j * 5 + 4, none⟩ = some (.string (xs.getD j ov0).v) := by
  rcases h.row with e | ⟨b, off, rfl, hc⟩
  · subst e; simp at hj
  · have key : ∀ i, i < 5 → w.cell? ⟨b, off + j * 5 + i, none⟩ = (OE.enc (xs.getD j ov0))[i]? := fun i hi => by
      have hx := cells_at okO ov0 xs j i hj hi
      have hlt : i < (OE.enc (xs.getD j ov0)).length := by simpa [OE] using hi
      rw [List.getElem?_eq_getElem hlt] at hx ⊢
      rw [Nat.add_assoc]
      exact hc _ _ hx
    exact ⟨b, off, rfl, key 0 (by omega), key 1 (by omega), key 2 (by omega), key 3 (by omega), key 4 (by omega)⟩
/-- a round, with its ops -/
structure RV where
  o : Option Addr
  n : Nat
  c : Nat
  arm : Int
  keep : Int
  full : Bool
  ops : List OV
def rv0 : RV := ⟨none, 0, 0, 0, 0, false, []⟩
def RE : El RV := ⟨41, 35, 4, 48, fun x => [.slice x.o x.n x.c, .int .i64 x.arm, .int .i64 x.keep, .bool x.full]⟩
theorem infoR : (Tryz.prog.info? 41).map (fun i => (i.zero, i.size, i.bytes)) = some (some (.agg #[.slice none 0 0, .int .i64 0, .int .i64 0, .bool false]), 4, 48) := by kernel_rfl
theorem okR : RE.Ok := by
  obtain ⟨i0, hi, hz0, hz1, hz2⟩ := info_parts infoR
  exact ⟨fun _ => rfl, fun x u hu => by simp [RE] at hu; rcases hu with rfl | rfl | rfl | rfl <;> rfl, by decide, Tryz.underlying35, i0, _, hi, hz0, hz1, hz2, rfl⟩
theorem atR {w : World} {a : Option Addr} {c : Nat} {xs : List RV} (h : Sl RE w a c xs) {j : Nat} (hj : j < xs.length) : ∃ b off, a = some ⟨b, off, none⟩ ∧ w.cell? ⟨b, off + j * 4, none⟩ = some (.slice (xs.getD j rv0).o (xs.getD j rv0).n (xs.getD j rv0).c) ∧ w.cell? ⟨b, off + j * 4 + 1, none⟩ = some (.int .i64 (xs.getD j rv0).arm) ∧ w.cell? ⟨b, off + j * 4 + 2, none⟩ = some (.int .i64 (xs.getD j rv0).keep) ∧ w.cell? ⟨b, off + j * 4 + 3, none⟩ = some (.bool (xs.getD j rv0).full) := by
  rcases h.row with e | ⟨b, off, rfl, hc⟩
  · subst e; simp at hj
  · have key : ∀ i, i < 4 → w.cell? ⟨b, off + j * 4 + i, none⟩ = (RE.enc (xs.getD j rv0))[i]? := fun i hi => by
      have hx := cells_at okR rv0 xs j i hj hi
      have hlt : i < (RE.enc (xs.getD j rv0)).length := by simpa [RE] using hi
      rw [List.getElem?_eq_getElem hlt] at hx ⊢
      rw [Nat.add_assoc]
      exact hc _ _ hx
    exact ⟨b, off, rfl, key 0 (by omega), key 1 (by omega), key 2 (by omega), key 3 (by omega)⟩
def wtR (x : RV) : Nat := (x.ops.map wtO).sum
structure RVok (w : World) (x : RV) : Prop where
  n : x.n = x.ops.length
  s : Sl OE w x.o x.c x.ops
  ok : ∀ v ∈ x.ops, OVok v
  arm : i64 x.arm
  keep : i64 x.keep
  wt : wtR x ≤ 1048576
theorem sum_take {α : Type} (f : α → Nat) (d : α) : ∀ (l : List α) (k : Nat), k < l.length → ((l.take (k + 1)).map f).sum = ((l.take k).map f).sum + f (l.getD k d)
  | [], k, h => by simp at h
  | x :: l, 0, h => by simp
  | x :: l, k + 1, h => by
    have := sum_take f d l k (by simpa using h)
    simp only [List.take_succ_cons, List.map_cons, List.sum_cons, List.getD_cons_succ] at this ⊢
    omega
theorem sum_le {α : Type} (f : α → Nat) : ∀ (l : List α) (k : Nat), ((l.take k).map f).sum ≤ (l.map f).sum
  | [], k => by simp
  | x :: l, 0 => by simp
  | x :: l, k + 1 => by
    have := sum_le f l k
    simp only [List.take_succ_cons, List.map_cons, List.sum_cons]
    omega
theorem len_le_sum : ∀ l : List OV, l.length ≤ (l.map wtO).sum
  | [] => by simp
  | x :: l => by
    have := len_le_sum l
    simp only [List.length_cons, List.map_cons, List.sum_cons, wtO]
    omega
/-- ahead of a round -/
def Rnd (w0 : World) (p qa us i : Nat) (W : World) : Prop :=
  ∃ F t Sa Na A g bs rs, Obs w0 W p F t qa Sa Na A ∧ Lv g bs rs t ∧ Gen g bs rs Sa us (19 * us + 17 * i) ∧ Nice Sa ∧ Low Sa ∧ Na ≤ us ∧ g ≤ i
/-- within a round: so much was logged -/
structure Inn (w0 : World) (p qa q l : Nat) (g : Nat) (bs : Option (List UInt8)) (us vs : Nat) (F : Nat → Prop) (t : Dk.St) (Sa : St) (Na : Nat) (A : Nat → Prop) (N : Nat) (C : Nat → Prop) (rs : List Rec) (W : World) : Prop where
  two : Two w0 W p F t qa Sa Na A q Sa N C
  lo : Lo w0 W l p (logN (g : Int)) (rowb rs).length F A C
  lv : Lv g bs rs t
  gen : Gen g bs rs Sa us vs
  nice : Nice Sa
  low : Low Sa
  na : Na ≤ us
  n : N ≤ us
def InnX (w0 : World) (p qa q l g : Nat) (bs : Option (List UInt8)) (us vs : Nat) (W : World) : Prop := ∃ F t Sa Na A N C rs, Inn w0 p qa q l g bs us vs F t Sa Na A N C rs W
theorem Inn.keepsN {w0 : World} {p qa q l g : Nat} {bs : Option (List UInt8)} {us vs : Nat} {F : Nat → Prop} {t : Dk.St} {Sa : St} {Na : Nat} {A : Nat → Prop} {N : Nat} {C : Nat → Prop} {rs : List Rec} {W W' : World} (h : Inn w0 p qa q l g bs us vs F t Sa Na A N C rs W) (hk : Keeps no W W') : Inn w0 p qa q l g bs us vs F t Sa Na A N C rs W' := ⟨h.two.keepsN hk, h.lo.keepsN hk, h.lv, h.gen, h.nice, h.low, h.na, h.n⟩
/-- what Open tells -/
theorem rnd_boot {w0 W W' : World} {p qa q l us i : Nat} {F : Nat → Prop} {t t' : Dk.St} {Sa : St} {Na : Nat} {A : Nat → Prop} {g : Nat} {bs : Option (List UInt8)} {rs : List Rec} (h : Obs w0 W p F t qa Sa Na A) (hl : Lv g bs rs t') (hG : Gen g bs rs Sa us (19 * us + 17 * i)) (hn : Nice Sa) (hw : Low Sa) (hNa : Na ≤ us)
    (hL : IsL W' l p (logN (g : Int)) (rowb rs).length ∧ W.heap.size ≤ l ∧ ¬ F l) (hS : ∃ N, N ≤ 440000000 ∧ NvB t N ∧ Sto W.heap.size W' q Sa N (fun b => b = l)) (hNv : ∀ N, NvB t N → N ≤ us) (hD : Dn w0 W' p F t') (hk : Keeps F W W') :
    ∃ N, Inn w0 p qa q l g bs us (19 * us + 17 * i) F t' Sa Na A N (fun b => W.heap.size ≤ b ∧ b < W'.heap.size ∧ b ≠ l) rs W' := by
  obtain ⟨N, _, hN, hS⟩ := hS
  have hwW := h.dn.kept.size
  refine ⟨N, ⟨h.disk1 hD hk, stx_new hS hwW, fun b hb hc => ?_, fun b hb hc => ?_⟩, ⟨hL.1, Nat.le_trans hwW hL.2.1, hL.2.2, fun ha => ?_, fun hc => hc.2.2 rfl⟩, hl, hG, hn, hw, hNa, hNv N hN⟩
  · have := h.dn.is.lt b hb; have := hc.1; omega
  · have := (h.all.2 b hb).2; have := hc.1; omega
  · have := (h.all.2 l ha).2; have := hL.2.1; omega
end Go.Proofs.YtdemoghlibnooaaGreatDoor
