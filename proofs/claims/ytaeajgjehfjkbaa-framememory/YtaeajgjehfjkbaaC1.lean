/- The small functions: same, own, copied, length, long, Build, the document's Build. -/
import Derived.Test.YtaeajgjehfjkbaaSpec
import Derived.Laws.IdiomCopy
import Derived.Laws.CopyRow
import Derived.Laws.BitsAllLaws
import Derived.Deep.OwnRows
namespace Go.Proofs.Ytaeajgjehfjkbaa
open Go.RowKit
set_option linter.unusedVariables false
set_option linter.unusedSimpArgs false

abbrev Tx := ByteArray
theorem tx_eq (x y : Tx) : (x.toList == y.toList) = decide (x = y) := by
  rw [Lib.toList_data, Lib.toList_data]
  by_cases h : x = y
  · subst h; simp
  · simp [h]; intro e; exact h (by cases x; cases y; simpa using e)
def mkT (l : List UInt8) : Tx := ⟨l.toArray⟩
theorem mkT_inj {a b : List UInt8} : mkT a = mkT b ↔ a = b := by
  constructor
  · intro h; have := congrArg (fun t : Tx => t.data.toList) h; simpa [mkT] using this
  · rintro rfl; rfl
theorem foldl_push (s : ByteArray) : ∀ ns : List Int, ns.foldl (fun r n => r.push (UInt8.ofNat n.toNat)) s = ⟨s.data ++ (ns.map fun n => UInt8.ofNat n.toNat).toArray⟩ := by
  intro ns
  induction ns generalizing s with
  | nil => simp
  | cons n r ih =>
    rw [List.foldl_cons, ih]
    simp [ByteArray.push]
theorem run_text (w : World) (a : Option Addr) (bs : List UInt8) (n cap : Nat) (hn : n = bs.length) (hr : Row BE w a bs) :
    (convert 24 9 (.slice a n cap)).run Try.prog w = .ok (.string (mkT bs)) w := by
  subst hn
  rw [run_convert_bytes_string w 24 9 5 a bs.length cap Try.underlying24 Try.underlying5 Try.underlying9]
  match a, hr with
  | none, hr =>
    obtain rfl : bs = [] := by rcases hr with h | ⟨b, off, h, _⟩; exact h; cases h
    simp [Conv.bytesToString, mkT]
    rfl
  | some ad, hr =>
    have hload := run_loadCells_list (P := Try.prog) w ad (BE.cells bs) hr.news
    have e : BE.cells bs = (bs.map fun c => ((c.toNat : Nat) : Int)).map (Value.int .u8) := by rw [cells_B]; simp [bv]
    have e2 : (BE.cells bs).length = bs.length := by rw [cells_B]; simp
    rw [e2, e] at hload
    rw [run_bytesToString w ad bs.length cap _ hload, foldl_push]
    congr 2
    simp [mkT, Function.comp_def]
theorem same_any (w : World) (oa : Option Addr) (na ca : Nat) (ob : Option Addr) (nb cb : Nat) (xs ys : List UInt8) (hna : na = xs.length) (hnb : nb = ys.length) (ha : Row BE w oa xs) (hb : Row BE w ob ys) :
    Calls Try.prog 13 #[.slice oa na ca, .slice ob nb cb] w fun e w' => e = .returned (.bool (decide (xs = ys))) ∧ w' = w := by
  have h1 := run_text w oa xs na ca hna ha
  have h2 := run_text w ob ys nb cb hnb hb
  clear hna hnb
  go_enter Try.func13, Try.ntmps13
  go_wp2
  go_ret
  refine ⟨?_, rfl⟩
  rw [tx_eq]
  simp [mkT_inj]
theorem same_yes (w : World) (oa : Option Addr) (na ca : Nat) (ob : Option Addr) (nb cb : Nat) (xs : List UInt8) (hna : na = xs.length) (hnb : nb = xs.length) (ha : Row BE w oa xs) (hb : Row BE w ob xs) :
    Calls Try.prog 13 #[.slice oa na ca, .slice ob nb cb] w fun e w' => e = .returned (.bool true) ∧ w' = w := by
  refine (same_any w oa na ca ob nb cb xs xs hna hnb ha hb).mono ?_
  rintro e w' ⟨rfl, rfl⟩
  exact ⟨by simp, rfl⟩
theorem own_any (w : World) (a : Option Addr) (n c : Nat) (xs : List UInt8) (hn : n = xs.length) (hs : Sl BE w a c xs) (hb : xs.length ≤ 140737488355328) :
    Calls Try.prog 12 #[.slice a n c] w fun e w' => ∃ v, e = .returned v ∧ Gives BE w xs v w' := by
  have HN : Hid (n = xs.length) := hn
  have hb' : Hid (xs.length ≤ 140737488355328) := hb
  clear hn hb
  go_enter Try.func12, Try.ntmps12
  go_wp2_with (at_builtin; refine wpList_app okB rfl _ _ rfl _ 0 0 [] rfl rfl (own_empty okB w) _ _ _ xs rfl HN.out hs.nil (hs.row.keepsN ((Keeps.refl _ _).alloc _)) (by have := hb'.out; simp [BE]; omega) (by have := hb'.out; simp; omega) ?_; intro o' c' w' ho hap)
  go_ret
  have := hap.new (w0 := w) (new_fresh w _ (Nat.le_refl _) _) ((Keeps.refl _ _).alloc _)
  exact ⟨_, rfl, o', _, c', rfl, (show _ = _ by simp [HN.out]), by simpa using ho, this.1, this.2⟩

/-! ### copied -/
theorem copy_run (w : World) (g n : Nat) (a : Option Addr) (c : Nat) (xs : List UInt8) (cur : Array Value) (hn : n = xs.length) (hs : Sl BE w a c xs) (hg : w.heap[g]? = some (.cells cur 5 (0, 0))) (hc : cur.size = n) (hm : n ≤ maxLen) :
    ∃ w', (Builtin.copy_ #[24, 24] 3 #[.slice (some ⟨g, 0, none⟩) n n, .slice a n c]).run Try.prog w = .ok (.int .i64 (n : Nat)) w' ∧ Own BE w' (some ⟨g, 0, none⟩) n xs ∧ Keeps (fun k => k = g) w w' := by
  subst hn
  have hsz : (Try.prog.info? 5).map (·.size) = some 1 := by
    obtain ⟨i0, hi, _, hz1, _⟩ := info_parts info5
    rw [hi]; simp [hz1]
  by_cases h0 : xs = []
  · subst h0
    refine ⟨w, run_copy_none (P := Try.prog) w 24 24 3 5 _ a _ _ _ c Try.underlying24 hsz rfl, ?_, Keeps.refl _ _⟩
    exact own_of_shape okB hg (Nat.le_refl _) hm (by simpa [BE] using hc) (by simp [El.cells])
  · match a, hs with
    | none, hs => exact absurd (by rcases hs.row with h | ⟨b, off, h, _⟩; exact h; cases h) h0
    | some ad, hs =>
      have hl : (BE.cells xs).length = xs.length := by rw [cells_B]; simp
      have hr := run_copy_row (P := Try.prog) w 24 24 3 5 g 0 xs.length xs.length ad xs.length c cur 5 (BE.cells xs) Try.underlying24 hsz hg (by rw [hl]; exact (Nat.min_self _).symm) hs.row.news (by rw [hl]; omega) (cells_one okB xs)
      rw [hl] at hr
      refine ⟨_, hr, ?_, ⟨rfl, rfl, rfl, by simp, fun k _ hk => setRow_other w g k _ hk⟩⟩
      have e : List.take 0 cur.toList ++ BE.cells xs ++ List.drop (0 + xs.length) cur.toList = BE.cells xs := by
        rw [List.take_zero, List.nil_append, List.drop_eq_nil_of_le (by simp [hc]), List.append_nil]
      rw [e]
      have hk1 : xs.length * BE.k = xs.length := Nat.mul_one _
      refine own_of_shape okB (setRow_heap w g cur _ 5 _ hg) (Nat.le_refl _) hm ?_ ?_
      · rw [hk1, List.size_toArray, hl]
      · rw [hk1, List.take_of_length_le (by rw [hl]; exact Nat.le_refl _)]
theorem wpList_copyR (w : World) {ops : Array Oper} {rest : List Oper} {o : Oper} {a : Act} {Q : Exit → Act → World → Prop} (hgd : o.guard = none) (d s : Operand) (t t' : TypeId)
    (ho : o.op = .call { callee := .builtin .copy, args := #[d, s], argTypes := #[t, t'] }) (v u : Value) (hd : a.eval d = v) (hs : a.eval s = u) {v' : Value} {w' : World}
    (hr : (Builtin.copy_ #[t, t'] o.type #[v, u]).run Try.prog w = .ok v' w') (h : wpList Try.prog ops Q rest (a.put o.dst v') w') : wpList Try.prog ops Q (o :: rest) a w := by
  refine wpList_plain hgd fun K hK => ?_
  unfold Oper.wp execOp
  simp only [ho, resolve, invoke, builtin, Sem.run_bind, Sem.run_pure, Result.andThen_ok, List.map_toArray, List.map_cons, List.map_nil, hd, hs, hr]
  exact hK _ _ h
theorem makeB (n : Nat) (hb : n ≤ 140737488355328) : ∃ Z : Array Value, Z.size = n ∧ Z.toList = BE.cells (List.replicate n 0) ∧ ∀ w : World, (Instr.makeSlice 24 (.int .i64 (n : Int)) (.int .i64 (n : Int))).run Try.prog w = .ok (.slice (some ⟨w.heap.size, 0, none⟩) n n) (w.alloc (.cells Z 5)) := by
  refine ⟨madeCells #[.int .u8 0] n, ?_, ?_, fun w => run_make_row' (P := Try.prog) 24 5 (.int .u8 0) 1 Try.underlying24 info5 rfl .i64 .i64 n (by omega) (by omega) w⟩
  · rw [← Array.length_toList, toList_madeCells_one, List.length_replicate]
  · rw [toList_madeCells_one, cells_B, List.map_replicate]
    rfl
theorem copied_any (w : World) (a : Option Addr) (n c : Nat) (xs : List UInt8) (hn : n = xs.length) (hs : Sl BE w a c xs) (hb : xs.length ≤ 140737488355328) :
    Calls Try.prog 18 #[.slice a n c] w fun e w' => ∃ v, e = .returned v ∧ Gives BE w xs v w' := by
  have hb2 : n ≤ 140737488355328 := by omega
  obtain ⟨Z, hZ, _, hmk⟩ := makeB n hb2
  have hmk := hmk w
  obtain ⟨w2, hr, ho, hk⟩ := copy_run (w.alloc (.cells Z 5)) w.heap.size n a c xs Z hn (hs.keepsN ((Keeps.refl _ _).alloc _)) (blk_new w _) hZ (by unfold maxLen; omega)
  have HN : Hid (n = xs.length) := hn
  have HO : Hid (Own BE w2 (some ⟨w.heap.size, 0, none⟩) n xs) := ho
  have HK : Hid (Keeps no w w2) := ((Keeps.refl no w).alloc (.cells Z 5)).then hk (fun i hi => .inr (Nat.le_of_eq hi.symm))
  clear hn hb hZ ho hk
  go_enter Try.func18, Try.ntmps18
  go_wp2_with (at_builtin; refine wpList_copyR _ rfl _ _ 24 24 rfl _ _ rfl rfl hr ?_)
  go_ret
  exact ⟨_, rfl, _, _, _, rfl, HN, HO.out, new_fresh w _ (Nat.le_refl _) _, HK.out⟩

/-! ### length -/
theorem or3 (a b c d : Nat) (ha : a < 256) (hb : b < 256) (hc : c < 256) (hd : d < 256) :
    bits .or .u32 ((a : Int) * 16777216) ((b : Int) * 65536) = ((a * 16777216 + b * 65536 : Nat) : Int) ∧ bits .or .u32 ((a * 16777216 + b * 65536 : Nat) : Int) ((c : Int) * 256) = ((a * 16777216 + b * 65536 + c * 256 : Nat) : Int) ∧
    bits .or .u32 ((a * 16777216 + b * 65536 + c * 256 : Nat) : Int) (d : Int) = ((a * 16777216 + b * 65536 + c * 256 + d : Nat) : Int) := by
  refine ⟨?_, ?_, ?_⟩
  · have := u32_or_nat (a * 16777216) (b * 65536) (by omega) (by omega)
    have e := Nat.two_pow_add_eq_or_of_lt (i := 24) (b := b * 65536) (by omega) a
    rw [show a * 16777216 = 2 ^ 24 * a by omega, ← e] at this
    rw [show ((a : Int) * 16777216) = ((2 ^ 24 * a : Nat) : Int) by omega, show ((b : Int) * 65536) = ((b * 65536 : Nat) : Int) by omega, this]
    omega
  · have := u32_or_nat (a * 16777216 + b * 65536) (c * 256) (by omega) (by omega)
    have e := Nat.two_pow_add_eq_or_of_lt (i := 16) (b := c * 256) (by omega) (a * 256 + b)
    rw [show ((c : Int) * 256) = ((c * 256 : Nat) : Int) by omega, this, show a * 16777216 + b * 65536 = 2 ^ 16 * (a * 256 + b) by omega, ← e]
  · have := u32_or_nat (a * 16777216 + b * 65536 + c * 256) d (by omega) (by omega)
    have e := Nat.two_pow_add_eq_or_of_lt (i := 8) (b := d) (by omega) (a * 65536 + b * 256 + c)
    rw [this, show a * 16777216 + b * 65536 + c * 256 = 2 ^ 8 * (a * 65536 + b * 256 + c) by omega, ← e]
theorem length_any (w : World) (a : Option Addr) (n c : Nat) (xs : List UInt8) (hn : n = xs.length) (hs : Row BE w a xs) (h4 : 4 ≤ n) :
    Calls Try.prog 17 #[.slice a n c] w fun e w' => e = .returned (.int .u32 (num xs : Nat)) ∧ Keeps no w w' := by
  obtain ⟨b, off, rfl, c0⟩ := rowB_at hs (j := 0) (by omega)
  obtain ⟨_, _, e, c1⟩ := rowB_at hs (j := 1) (by omega)
  cases e
  obtain ⟨_, _, e, c2⟩ := rowB_at hs (j := 2) (by omega)
  cases e
  obtain ⟨_, _, e, c3⟩ := rowB_at hs (j := 3) (by omega)
  cases e
  have hnum : num xs = (xs.getD 0 0).toNat * 16777216 + (xs.getD 1 0).toNat * 65536 + (xs.getD 2 0).toNat * 256 + (xs.getD 3 0).toNat := rfl
  obtain ⟨x0, y0⟩ : ∃ x, x = (xs.getD 0 0).toNat := ⟨_, rfl⟩
  obtain ⟨x1, y1⟩ : ∃ x, x = (xs.getD 1 0).toNat := ⟨_, rfl⟩
  obtain ⟨x2, y2⟩ : ∃ x, x = (xs.getD 2 0).toNat := ⟨_, rfl⟩
  obtain ⟨x3, y3⟩ : ∃ x, x = (xs.getD 3 0).toNat := ⟨_, rfl⟩
  have l0 : x0 < 256 := by have := (xs.getD 0 0).toNat_lt; omega
  have l1 : x1 < 256 := by have := (xs.getD 1 0).toNat_lt; omega
  have l2 : x2 < 256 := by have := (xs.getD 2 0).toNat_lt; omega
  have l3 : x3 < 256 := by have := (xs.getD 3 0).toNat_lt; omega
  obtain ⟨o1, o2, o3⟩ := or3 x0 x1 x2 x3 l0 l1 l2 l3
  simp only [bv] at c0 c1 c2 c3
  rw [← y0] at c0
  rw [← y1] at c1
  rw [← y2] at c2
  rw [← y3] at c3
  rw [← y0, ← y1, ← y2, ← y3] at hnum
  rw [← hnum] at o3
  rw [Nat.add_zero] at c0
  obtain ⟨N, hN⟩ : ∃ N, N = num xs := ⟨_, rfl⟩
  rw [← hN] at o3 ⊢
  obtain ⟨m1, hm1⟩ : ∃ m, m = x0 * 16777216 + x1 * 65536 := ⟨_, rfl⟩
  obtain ⟨m2, hm2⟩ : ∃ m, m = m1 + x2 * 256 := ⟨_, rfl⟩
  rw [← hm1] at o1 o2 o3
  rw [← hm2] at o2 o3
  clear hnum hN y0 y1 y2 y3 hm1 hm2 hs hn
  go_enter Try.func17, Try.ntmps17
  go_wp2_with fail
  go_quiet (fail)
  go_wp2
  go_ret
  exact ⟨rfl, (Keeps.refl _ _).drewN _⟩
end Go.Proofs.Ytaeajgjehfjkbaa
