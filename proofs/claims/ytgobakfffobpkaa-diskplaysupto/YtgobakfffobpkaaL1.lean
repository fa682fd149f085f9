/- A disk of the call's own; the document's first example. -/
import Derived.Test.YtgobakfffobpkaaD8
import Derived.Lib.SlBytesConst
namespace Go.Proofs.Ytgobakfffobpkaa
open Go.RowKit Dk
set_option linter.unusedVariables false
set_option linter.unusedSimpArgs false

/-- a disk all of whose blocks are new since w0 -/
structure Dn (w0 w : World) (p : Nat) (F : Nat → Prop) (s : St) : Prop where
  is : IsD w p F s
  new : ∀ k, F k → w0.heap.size ≤ k
  kept : Keeps no w0 w
theorem Dn.step {w0 w w' : World} {p : Nat} {F F' : Nat → Prop} {s s' : St} (h : Dn w0 w p F s) (hi : IsD w' p F' s') (hF : ∀ k, F' k → F k ∨ w.heap.size ≤ k) (hk : Keeps F w w') : Dn w0 w' p F' s' :=
  ⟨hi, fun k hk => by rcases hF k hk with h1 | h1; exact h.new k h1; exact Nat.le_trans h.kept.size h1, h.kept.then hk (fun i hi => .inr (h.new i hi))⟩
theorem Dn.same {w0 w w' : World} {p : Nat} {F : Nat → Prop} {s s' : St} (h : Dn w0 w p F s) (hi : IsD w' p F s') (hk : Keeps F w w') : Dn w0 w' p F s' := h.step hi (fun k hk => .inl hk) hk
theorem Dn.more {w0 w w' : World} {p : Nat} {F : Nat → Prop} {s s' : St} (h : Dn w0 w p F s) (hi : IsD w' p (grow F w w') s') (hk : Keeps F w w') : Dn w0 w' p (grow F w w') s' := h.step hi (fun k hk => by rcases hk with h | h; exact .inl h; exact .inr h.1) hk
theorem Dn.beside {w0 w w' : World} {p : Nat} {F : Nat → Prop} {s : St} (h : Dn w0 w p F s) (hk : Keeps no w w') : Dn w0 w' p F s := ⟨h.is.keepsN hk, h.new, h.kept.trans hk⟩

/-- bytes written out -/
def lit (cs : List UInt8) : Array Value := (cs.map bv).toArray
theorem lit_sl (w : World) (cs : List UInt8) (c : Nat) (fz : Nat × Nat) (hc : cs.length ≤ c) : Sl BE (w.alloc (.cells (lit cs) 5 fz)) (some ⟨w.heap.size, 0, none⟩) c cs := by
  refine ⟨.inr ⟨_, 0, rfl, fun j u hj => ?_⟩, hc, fun e => by cases e⟩
  rw [cells_B] at hj
  rw [Nat.zero_add, cell_of_blk (blk_new w _)]
  simpa [lit] using hj
theorem in_some {k b i : Nat} (h : inO (some ⟨b, i, none⟩) k) : k = b := by obtain ⟨x, e, rfl⟩ := h; cases e; rfl
theorem keeps_alloc (w : World) (o : Obj) : Keeps no w (w.alloc o) := (Keeps.refl no w).alloc o


/-! ### calls on such a disk, what they tell written out -/
theorem dn_append {w0 w : World} {p : Nat} {F : Nat → Prop} {s s' : St} {er : Int} (n : Tx) (ob : Option Addr) (nb cb : Nat) (b : List UInt8) (h : Dn w0 w p F s) (hA : counted s (appendOn n.data.toList b) = (s', er)) (hn : n.size ≤ maxLen) (hnb : nb = b.length) (hb : Sl BE w ob cb b) (hF : ∀ k, inO ob k → ¬ F k)
    (hlen : b.length ≤ 140737488355328) (hfit : ∀ f, find n.data.toList (tick s).fs = some f → f.bs.length + b.length ≤ 140737488355328) :
    Calls Try.prog 11 #[.pointer (some ⟨p, 0, none⟩), .string n, .slice ob nb cb] w fun e w' => e = .returned (.int .i64 er) ∧ Dn w0 w' p (grow F w w') s' ∧ Keeps F w w' := by
  refine (append_any w p F s n ob nb cb b h.is hn hnb hb hF hlen hfit).mono ?_
  rintro e w' ⟨rfl, hi, hk⟩
  rw [hA] at hi ⊢
  exact ⟨rfl, h.more hi hk, hk⟩
theorem dn_sync {w0 w : World} {p : Nat} {F : Nat → Prop} {s s' : St} {er : Int} (n : Tx) (h : Dn w0 w p F s) (hA : counted s (syncOn n.data.toList) = (s', er)) (hn : n.size ≤ maxLen) :
    Calls Try.prog 13 #[.pointer (some ⟨p, 0, none⟩), .string n] w fun e w' => e = .returned (.int .i64 er) ∧ Dn w0 w' p F s' ∧ Keeps F w w' := by
  refine (sync_any w p F s n h.is hn).mono ?_
  rintro e w' ⟨rfl, hi, hk⟩
  rw [hA] at hi ⊢
  exact ⟨rfl, h.same hi hk, hk⟩
theorem dn_rename {w0 w : World} {p : Nat} {F : Nat → Prop} {s s' : St} {er : Int} (a n : Tx) (h : Dn w0 w p F s) (hA : counted s (renameOn a.data.toList n.data.toList) = (s', er)) (hn : a.size ≤ maxLen) :
    Calls Try.prog 15 #[.pointer (some ⟨p, 0, none⟩), .string a, .string n] w fun e w' => e = .returned (.int .i64 er) ∧ Dn w0 w' p F s' ∧ Keeps F w w' := by
  refine (rename_any w p F s a n h.is hn).mono ?_
  rintro e w' ⟨rfl, hi, hk⟩
  rw [hA] at hi ⊢
  exact ⟨rfl, h.same hi hk, hk⟩
theorem dn_delete {w0 w : World} {p : Nat} {F : Nat → Prop} {s s' : St} {er : Int} (n : Tx) (h : Dn w0 w p F s) (hA : counted s (deleteOn n.data.toList) = (s', er)) (hn : n.size ≤ maxLen) :
    Calls Try.prog 16 #[.pointer (some ⟨p, 0, none⟩), .string n] w fun e w' => e = .returned (.int .i64 er) ∧ Dn w0 w' p F s' ∧ Keeps F w w' := by
  refine (delete_any w p F s n h.is hn).mono ?_
  rintro e w' ⟨rfl, hi, hk⟩
  rw [hA] at hi ⊢
  exact ⟨rfl, h.same hi hk, hk⟩
theorem dn_crash {w0 w : World} {p : Nat} {F : Nat → Prop} {s s' : St} (k : Int) (h : Dn w0 w p F s) (hA : crash k s = s') (hk : i64 k) :
    Calls Try.prog 25 #[.pointer (some ⟨p, 0, none⟩), .int .i64 k] w fun e w' => e = .returned (.tuple #[]) ∧ Dn w0 w' p F s' ∧ Keeps F w w' := by
  refine (crash_any w p F s k h.is hk).mono ?_
  rintro e w' ⟨rfl, hi, hk⟩
  rw [hA] at hi
  exact ⟨rfl, h.same hi hk, hk⟩
theorem dn_up {w0 w : World} {p : Nat} {F : Nat → Prop} {s s' : St} (h : Dn w0 w p F s) (hA : up s = s') :
    Calls Try.prog 17 #[.pointer (some ⟨p, 0, none⟩)] w fun e w' => e = .returned (.tuple #[]) ∧ Dn w0 w' p F s' ∧ Keeps F w w' := by
  refine (up_any w p F s h.is).mono ?_
  rintro e w' ⟨rfl, hi, hk⟩
  rw [hA] at hi
  exact ⟨rfl, h.same hi hk, hk⟩
theorem dn_arm {w0 w : World} {p : Nat} {F : Nat → Prop} {s s' : St} (n k : Int) (h : Dn w0 w p F s) (hA : arm n k s = s') (hn : i64 n) (hk : i64 k) :
    Calls Try.prog 14 #[.pointer (some ⟨p, 0, none⟩), .int .i64 n, .int .i64 k] w fun e w' => e = .returned (.tuple #[]) ∧ Dn w0 w' p F s' ∧ Keeps F w w' := by
  refine (arm_any w p F s h.is n k hn hk).mono ?_
  rintro e w' ⟨rfl, hi, hk⟩
  rw [hA] at hi
  exact ⟨rfl, h.same hi hk, hk⟩
theorem dn_read {w0 w : World} {p : Nat} {F : Nat → Prop} {s s' : St} {er : Int} {b : List UInt8} (n : Tx) (h : Dn w0 w p F s) (hA : tick s = s') (hB : readB n.data.toList s' = b) (hE : readE n.data.toList s' = er) (hn : n.size ≤ maxLen) (hb : b.length ≤ 140737488355328) :
    Calls Try.prog 18 #[.pointer (some ⟨p, 0, none⟩), .string n] w fun e w' => ∃ o c m, e = .returned (.tuple #[.slice o m c, .int .i64 er]) ∧ Hid (m = b.length) ∧ Own BE w' o c b ∧ New w o ∧ Dn w0 w' p F s' ∧ Keeps F w w' := by
  refine (read_any w p F s n h.is hn (by rw [hA, hB]; exact hb)).mono ?_
  rintro e w' ⟨o, c, m, rfl, hm, ho, hnw, hi, hk⟩
  rw [hA] at hi hm ho ⊢
  rw [hB] at hm ho
  rw [hE]
  exact ⟨o, c, m, rfl, hm, ho, hnw, h.same hi hk, hk⟩
def tA : Tx := ⟨#[97]⟩
theorem tA_max : tA.size ≤ maxLen := by unfold maxLen; decide
theorem i64_1 : i64 1 := by unfold i64; omega

set_option maxRecDepth 20000 in
theorem alive_any (w : World) : Calls Try.prog 9 #[] w fun e w' => e = .returned (.bool true) ∧ Keeps no w w' := by
  have kc := fun (w : World) (C : Array Value) (n c : Nat) => Lib.run_convert_bytes_const (P := Try.prog) w 22 5 C n c Try.underlying22 Try.underlying5
  go_enter Try.func9, Try.ntmps9
  go_wp2_with fail
  refine (new_any w).mono ?_
  rintro e w1 ⟨p, rfl, h1, hk1⟩
  have d1 : Hid (Dn w w1 p _ Dk.new) := ⟨h1, fun k hk => hk.1, hk1⟩
  clear h1 hk1
  go_wp2_with fail
  refine (dn_append (s' := ⟨[([97], ⟨[120, 121], 0⟩)], false, 0, -1, 0⟩) (er := 0) tA _ 2 2 [120, 121] (d1.out.beside (keeps_alloc _ _)) rfl tA_max rfl (lit_sl w1 [120, 121] 2 (2, 3) (by decide)) (fun k hk => by rw [in_some hk]; intro h; omega) (by decide) (fun f hf => by cases hf)).mono ?_
  rintro e w2 ⟨rfl, h2, hk2⟩
  have d2 : Hid (Dn w w2 p _ _) := h2
  clear h2 hk2 d1
  go_wp2_with fail
  refine (dn_sync (s' := ⟨[([97], ⟨[120, 121], 2⟩)], false, 0, -1, 0⟩) (er := 0) tA d2.out rfl tA_max).mono ?_
  rintro e w3 ⟨rfl, h3, hk3⟩
  have d3 : Hid (Dn w w3 p _ _) := h3
  clear h3 hk3 d2
  go_wp2_with fail
  refine (dn_append (s' := ⟨[([97], ⟨[120, 121, 122, 49], 2⟩)], false, 0, -1, 0⟩) (er := 0) tA _ 2 2 [122, 49] (d3.out.beside (keeps_alloc _ _)) rfl tA_max rfl (lit_sl w3 [122, 49] 2 (2, 3) (by decide)) (fun k hk => by rw [in_some hk]; intro h; have := d3.out.is.lt _ h; omega) (by decide) (fun f hf => by cases hf; decide)).mono ?_
  rintro e w4 ⟨rfl, h4, hk4⟩
  have d4 : Hid (Dn w w4 p _ _) := h4
  clear h4 hk4 d3
  go_wp2_with fail
  refine (dn_crash (s' := ⟨[([97], ⟨[120, 121, 122], 3⟩)], true, 0, -1, 0⟩) 1 d4.out rfl i64_1).mono ?_
  rintro e w5 ⟨rfl, h5, hk5⟩
  have d5 : Hid (Dn w w5 p _ _) := h5
  clear h5 hk5 d4
  go_wp2_with fail
  refine (dn_read (er := 62) (b := []) tA d5.out rfl rfl rfl tA_max (by decide)).mono ?_
  rintro e w6 ⟨o6, c6, m6, rfl, hm6, ho6, hn6, h6, hk6⟩
  have d6 : Hid (Dn w w6 p _ _) := h6
  clear h6 hk6 d5 ho6 hn6
  go_wp2_with fail
  refine (dn_up (s' := ⟨[([97], ⟨[120, 121, 122], 3⟩)], false, 0, -1, 0⟩) d6.out rfl).mono ?_
  rintro e w7 ⟨rfl, h7, hk7⟩
  have d7 : Hid (Dn w w7 p _ _) := h7
  clear h7 hk7 d6
  go_wp2_with fail
  refine (dn_read (er := 0) (b := [120, 121, 122]) tA d7.out rfl rfl rfl tA_max (by decide)).mono ?_
  rintro e w8 ⟨o8, c8, m8, rfl, hm8, ho8, hn8, h8, hk8⟩
  have htx := run_text w8 o8 [120, 121, 122] m8 c8 hm8.out ho8.row
  have HK : Hid (Keeps no w w8) := h8.kept
  clear h8 hk8 d7 ho8 hn8
  go_wp2
  go_ret
  refine ⟨?_, HK.out⟩
  rw [Lib.toList_data, data_mkT]
  rfl
end Go.Proofs.Ytgobakfffobpkaa
