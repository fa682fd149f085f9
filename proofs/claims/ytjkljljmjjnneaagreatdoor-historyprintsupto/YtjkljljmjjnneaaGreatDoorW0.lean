/- How texts and numbers are written: FormatUint, writeNumber, writeText. -/
import Derived.Test.YtjkljljmjjnneaaGreatDoorB0
import Derived.Test.YtjkljljmjjnneaaGreatDoorV0
import Derived.Lib.LaidTab
import Derived.Lib.ItoaMem
import Derived.Shelf.Strconv.Itoa1
import Derived.Shelf.Strconv.Itoa2
namespace Go.Proofs.YtjkljljmjjnneaaGreatDoor
open Go.RowKit Go.Sort Orl
set_option linter.unusedVariables false
set_option linter.unusedSimpArgs false

theorem gPow : Tryz.prog.globalNamed "internal/strconv.uint64pow10" = some 2 := by kernel_rfl
def PowIn (w : World) : Prop := Lib.TabIs Tryz.prog w "internal/strconv.uint64pow10" .u64 Lib.pow10Tab
theorem PowIn.lt {w : World} (h : PowIn w) : 2 < w.heap.size := by
  unfold PowIn Lib.TabIs World.var? at h
  rw [gPow] at h
  simp only [Option.bind_some] at h
  rcases Nat.lt_or_ge 2 w.heap.size with h' | h'
  · exact h'
  · rw [Array.getElem?_eq_none h'] at h; cases h
theorem PowIn.keepsN {w w' : World} (h : PowIn w) (hk : Keeps no w w') : PowIn w' := by
  have hl := h.lt
  unfold PowIn Lib.TabIs World.var? at h ⊢
  rw [gPow] at h ⊢
  simp only [Option.bind_some] at h ⊢
  rw [hk.block _ hl id]
  exact h
theorem keeps_growK (w : World) (k : Nat) (os : Array Obj) : Keeps no w (Sort.grow (w.drewN k) os) := by
  refine ⟨rfl, rfl, rfl, by simp [Sort.grow, World.drewN], fun i hi _ => ?_⟩
  simp [Sort.grow, World.drewN, Array.getElem?_append, hi]
/-- a number as it is written -/
def numW (n : Nat) : List UInt8 := Lib.decDigits n
theorem numW_len {n : Nat} (h : n < 18446744073709551616) : (numW n).length ≤ 20 := by
  unfold numW
  rw [Lib.decDigits_length]
  by_cases h0 : n = 0
  · subst h0; rw [Lib.nDigits, dif_pos (by decide)]; decide
  · have := Lib.numDigits_eq n (by omega) h
    split at this <;> omega
set_option maxHeartbeats 4000000 in
set_option maxRecDepth 100000 in
theorem iFormat_any (w : World) (hp : PowIn w) (u : Nat) (hu64 : u < 18446744073709551616) :
    Calls Tryz.prog 75 #[.int .u64 (u : Nat), .int .i64 10] w fun e w' => e = .returned (.string ⟨(numW u).toArray⟩) ∧ Keeps no w w' := by
  by_cases hs : u < 100
  · have hs' : (u : Int) < 100 := by omega
    have hu0 : (0 : Int) ≤ u := by omega
    have hw : wrap64 (u : Int) = (u : Int) := IntWalk.wrap64_in _ ⟨by omega, by omega⟩
    go_enter Tryz.func75, Tryz.ntmps75
    go_wp2_with (go_at_call 88; refine (Any.internal_strconv_small Tryz.laysSmall u hs _).mono ?_; rintro e w' ⟨rfl, rfl⟩)
    go_ret
    exact ⟨rfl, Keeps.refl _ _⟩
  · have hs' : ¬ (u : Int) < 100 := by omega
    have hu1 : 1 ≤ u := by omega
    have hnd20 : Lib.nDigits u ≤ 20 := by have := Lib.numDigits_eq u hu1 hu64; split at this <;> omega
    have hal : Tryz.prog.arrayLen 135 = 24 := by kernel_rfl
    have hsl1 : ∀ W, (Instr.sliceAt 135 (.pointer (some ⟨w.heap.size, 0, none⟩)) none (some (.int .i64 (Lib.nDigits u : Int))) none).run Tryz.prog W = .ok (.slice (some ⟨w.heap.size, 0, none⟩) (Lib.nDigits u) 24) W := fun W => by
      rw [run_sliceAt_array_h W 135 ⟨w.heap.size, 0, none⟩ (by kernel_rfl) .i64 (Lib.nDigits u : Int) (by omega) (by rw [hal]; omega)]
      go_simp
    have hH0 : Holds (fun (b : UInt8) => Value.int .u8 (b.toNat : Int)) (w.alloc (.cells Lib.zeros24 135)) w.heap.size 0 (Array.replicate (Lib.nDigits u) (0 : UInt8)) := fun j hj => by
      have hj' : j < Lib.nDigits u := by simpa using hj
      refine ⟨?_, World.frozen?_alloc_new _ _ _ _⟩
      rw [World.cell?_alloc_new, Nat.zero_add, Lib.zeros24_at _ (by omega), getElem!_pos _ j hj]
      simp
    have hfmt := Any.internal_strconv_formatBase10 Tryz.laysBase10 w.heap.size 0 24 u (Array.replicate (Lib.nDigits u) 0) (w.alloc (.cells Lib.zeros24 135)) hH0 (by rw [Array.size_replicate]; exact Lib.lt_pow_nDigits u) hu64 (by rw [Array.size_replicate]; omega)
    rw [Array.size_replicate] at hfmt
    have HH0 := Lib.hid hH0
    have HK := fun (k : Nat) (os : Array Obj) => keeps_growK w k os
    clear hH0 hal
    go_enter Tryz.func75, Tryz.ntmps75
    go_wp2_with (go_at_call 89; refine (Any.internal_strconv_numDigits Tryz.laysNumDigits u hu1 hu64 _ (Lib.tabIs_alloc hp _)).mono ?_; rintro e w' ⟨rfl, rfl⟩)
    refine hfmt.mono ?_
    rintro e w' ⟨rfl, k, v', dk, rfl, hF⟩
    have hcv : (convert 69 9 (.slice (some ⟨w.heap.size, 0, none⟩) (Lib.nDigits u) 24)).run Tryz.prog ((putRow (fun (b : UInt8) => Value.int .u8 (b.toNat : Int)) (w.alloc (.cells Lib.zeros24 135)) w.heap.size 0 dk).drewN k) = .ok (.string ⟨(Lib.decDigits u).toArray⟩) ((putRow (fun (b : UInt8) => Value.int .u8 (b.toNat : Int)) (w.alloc (.cells Lib.zeros24 135)) w.heap.size 0 dk).drewN k) := by
      have h := run_convert_bytes_back (P := Tryz.prog) ((putRow (fun (b : UInt8) => Value.int .u8 (b.toNat : Int)) (w.alloc (.cells Lib.zeros24 135)) w.heap.size 0 dk).drewN k) 69 9 5 ⟨w.heap.size, 0, none⟩ 24 (Lib.decDigits u) Tryz.underlying69 Tryz.underlying5 Tryz.underlying9 (fun j hj => by
        rw [Lib.row_is_numeral hF j hj, Lib.add_plain, World.cell?_drewN]
        exact cell?_putRow (fun (b : UInt8) => Value.int .u8 (b.toNat : Int)) _ w.heap.size 0 _ dk HH0.out (by rw [hF.size, Array.size_replicate]) j (by rw [hF.size]; rw [Lib.decDigits_length] at hj; exact hj))
      rw [Lib.decDigits_length] at h
      exact h
    go_wp2
    go_ret
    refine ⟨rfl, ?_⟩
    rw [alloc_eq_grow]
    obtain ⟨os', _, e⟩ := putRow_grow_new (fun (b : UInt8) => Value.int .u8 (b.toNat : Int)) w #[.cells Lib.zeros24 135] w.heap.size 0 dk (Nat.le_refl _)
    rw [e]
    exact keeps_growK w k os'
theorem format_any (w : World) (hp : PowIn w) (u : Nat) (hu64 : u < 18446744073709551616) :
    Calls Tryz.prog 60 #[.int .u64 (u : Nat), .int .i64 10] w fun e w' => e = .returned (.string ⟨(numW u).toArray⟩) ∧ Keeps no w w' := by
  have HF := iFormat_any w hp u hu64
  clear hp hu64
  go_enter Tryz.func60, Tryz.ntmps60
  go_wp2_with fail
  refine HF.mono ?_
  rintro e w1 ⟨rfl, hk⟩
  go_wp2_with fail
  go_ret
  exact ⟨rfl, hk⟩
/-- a writer's end: nothing told -/
abbrev Wr0 (w0 w : World) (b : Nat) (acc out : List UInt8) : Ending → World → Prop := BdTo w0 w b acc out (.tuple #[])
theorem writeNumber_any (w0 w : World) (b : Nat) (acc : List UInt8) (h : Bd w0 w b acc) (hp : PowIn w) (u : Nat) (hu : u < 18446744073709551616) (hl : acc.length + 20 ≤ 140737488355328) :
    Calls Tryz.prog 38 #[.pointer (some ⟨b, 0, none⟩), .int .u64 (u : Nat)] w (Wr0 w0 w b acc (numW u)) := by
  have HF := format_any w hp u hu
  have hn := numW_len hu
  have HW : Hid (∀ W, Keeps no w W → Calls Tryz.prog 59 #[.pointer (some ⟨b, 0, none⟩), .string ⟨(numW u).toArray⟩] W (BdTo w0 W b acc (numW u) (.tuple #[.int .i64 (numW u).length, .nilIface]))) := fun W hW => by
    have h1 := writeString_any w0 W b acc ⟨(numW u).toArray⟩ (h.keepsN hW) (by show _ + (numW u).toArray.size ≤ _; rw [List.size_toArray]; omega)
    exact h1
  clear hp hl hu hn h
  go_enter Tryz.func38, Tryz.ntmps38
  go_wp2_with fail
  refine HF.mono ?_
  rintro e w1 ⟨rfl, hk⟩
  go_wp2_with fail
  refine (HW.out _ hk).mono ?_
  rintro e w2 ⟨rfl, h2, h3⟩
  go_wp2_with fail
  go_end0
  exact ⟨rfl, h2, (hk.bo b).trans h3⟩
/-- does a byte stand for itself -/
def plainB (c : UInt8) : Bool := decide (33 ≤ c.toNat ∧ c.toNat ≤ 126 ∧ c.toNat ≠ 35 ∧ c.toNat ≠ 37 ∧ c.toNat ≠ 61)
theorem isPlain_any (w : World) (c : UInt8) : Calls Tryz.prog 77 #[.int .u8 (c.toNat : Nat)] w fun e w' => e = .returned (.bool (plainB c)) ∧ w' = w := by
  unfold plainB
  have hb := c.toNat_lt
  generalize c.toNat = n at hb ⊢
  by_cases h1 : 33 ≤ n
  · by_cases h2 : n ≤ 126
    · by_cases h3 : n = 35
      · subst h3
        go_enter Tryz.func77, Tryz.ntmps77
        go_wp2_with fail
        go_ret
        exact ⟨rfl, rfl⟩
      · by_cases h4 : n = 37
        · subst h4
          go_enter Tryz.func77, Tryz.ntmps77
          go_wp2_with fail
          go_ret
          exact ⟨rfl, rfl⟩
        · have h1' : (33 : Int) ≤ n := by omega
          have h2' : (n : Int) ≤ 126 := by omega
          have h3' : ¬ (n : Int) = 35 := by omega
          have h4' : ¬ (n : Int) = 37 := by omega
          have e : decide (33 ≤ n ∧ n ≤ 126 ∧ n ≠ 35 ∧ n ≠ 37 ∧ n ≠ 61) = decide (¬ (n : Int) = 61) := by
            rw [decide_eq_decide]; constructor
            · intro h; omega
            · intro h; omega
          rw [e]
          go_enter Tryz.func77, Tryz.ntmps77
          go_wp2_with fail
          go_ret
          by_cases h5 : (n : Int) = 61
          · simp [h5]
          · simp [h3', h4', h5]
    · have h1' : (33 : Int) ≤ n := by omega
      have h2' : ¬ (n : Int) ≤ 126 := by omega
      rw [decide_eq_false (by omega)]
      go_enter Tryz.func77, Tryz.ntmps77
      go_wp2_with fail
      go_ret
      exact ⟨rfl, rfl⟩
  · have h1' : ¬ (33 : Int) ≤ n := by omega
    rw [decide_eq_false (by omega)]
    go_enter Tryz.func77, Tryz.ntmps77
    go_wp2_with fail
    go_ret
    exact ⟨rfl, rfl⟩
end Go.Proofs.YtjkljljmjjnneaaGreatDoor
