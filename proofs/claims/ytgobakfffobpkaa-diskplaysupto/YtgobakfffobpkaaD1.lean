/- The small functions: copies of bytes, names, the power, a file's crash. -/
import Derived.Test.YtgobakfffobpkaaOb
import Derived.Test.YtgobakfffobpkaaShelf
namespace Go.Proofs.Ytgobakfffobpkaa
open Go.RowKit Dk
set_option linter.unusedVariables false
set_option linter.unusedSimpArgs false

theorem keeps_set (w : World) (a i : Nat) (u : Value) : Keeps (fun k => k = a) w (w.setCell ⟨a, i, none⟩ u) :=
  (Keeps.refl (fun k => k = a) w).setCell (p := ⟨a, i, none⟩) (.inl rfl) u
def mkT (l : List UInt8) : Tx := ⟨l.toArray⟩
theorem mkT_data (x : Tx) : mkT x.data.toList = x := by cases x; simp [mkT]
theorem data_mkT (l : List UInt8) : (mkT l).data.toList = l := by simp [mkT]
theorem mkT_inj {a b : List UInt8} : mkT a = mkT b ↔ a = b := by
  constructor
  · intro h; have := congrArg (fun t : Tx => t.data.toList) h; simpa [mkT] using this
  · rintro rfl; rfl

theorem foldl_push (s : ByteArray) : ∀ ns : List Int, ns.foldl (fun r n => r.push (UInt8.ofNat n.toNat)) s = ⟨s.data ++ (ns.map fun n => UInt8.ofNat n.toNat).toArray⟩ := by
  intro ns
  induction ns generalizing s with
  | nil => simp
  | cons n r ih =>
    rw [List.foldl_cons, ih]
    simp [ByteArray.push]
theorem run_text (w : World) (a : Option Addr) (bs : List UInt8) (n cap : Nat) (hn : n = bs.length) (hr : Row BE w a bs) :
    (convert 22 9 (.slice a n cap)).run Try.prog w = .ok (.string (mkT bs)) w := by
  subst hn
  rw [run_convert_bytes_string w 22 9 5 a bs.length cap Try.underlying22 Try.underlying5 Try.underlying9]
  match a, hr with
  | none, hr =>
    obtain rfl : bs = [] := by rcases hr with h | ⟨b, off, h, _⟩; exact h; cases h
    simp [Conv.bytesToString, mkT]
    rfl
  | some ad, hr =>
    have hload := run_loadCells_list (P := Try.prog) w ad (BE.cells bs) hr.news
    have e : BE.cells bs = (bs.map fun c => ((c.toNat : Nat) : Int)).map (Value.int .u8) := by rw [cells_B]; simp [bv]
    have e2 : (BE.cells bs).length = bs.length := by rw [cells_B]; simp
    rw [e2, e] at hload
    rw [run_bytesToString w ad bs.length cap _ hload, foldl_push]
    congr 2
    simp [mkT, Function.comp_def]

theorem same_any (w : World) (oa : Option Addr) (na ca : Nat) (ob : Option Addr) (nb cb : Nat) (xs ys : List UInt8) (hna : na = xs.length) (hnb : nb = ys.length) (ha : Row BE w oa xs) (hb : Row BE w ob ys) :
    Calls Try.prog 19 #[.slice oa na ca, .slice ob nb cb] w fun e w' => e = .returned (.bool (decide (xs = ys))) ∧ w' = w := by
  have h1 := run_text w oa xs na ca hna ha
  have h2 := run_text w ob ys nb cb hnb hb
  clear hna hnb
  go_enter Try.func19, Try.ntmps19
  go_wp2
  go_ret
  refine ⟨?_, rfl⟩
  rw [tx_eq]
  simp [mkT_inj]

theorem own_any (w : World) (a : Option Addr) (n c : Nat) (xs : List UInt8) (hn : n = xs.length) (hs : Sl BE w a c xs) (hb : xs.length ≤ 140737488355328) :
    Calls Try.prog 12 #[.slice a n c] w fun e w' => ∃ v, e = .returned v ∧ Gives BE w xs v w' := by
  have HN : Hid (n = xs.length) := hn
  have hb' : Hid (xs.length ≤ 140737488355328) := hb
  clear hn hb
  go_enter Try.func12, Try.ntmps12
  go_wp2_with (at_builtin; refine wpList_app okB rfl _ _ rfl none 0 0 [] rfl rfl (own_nil _) _ _ _ xs rfl HN.out hs.nil hs.row (by have := hb'.out; simp [BE]; omega) (by have := hb'.out; simp; omega) ?_; intro o' c' w' ho hap)
  go_ret
  have := hap.new (w0 := w) (new_none w) (Keeps.refl _ _)
  exact ⟨_, rfl, o', _, c', rfl, (show _ = _ by simp [HN.out]), by simpa using ho, this.1, this.2⟩

theorem clone_any (w : World) (a : Option Addr) (n c : Nat) (xs : List UInt8) (hn : n = xs.length) (hs : Sl BE w a c xs) (hb : xs.length ≤ 140737488355328) :
    Calls Try.prog 40 #[.slice a n c] w fun e w' => ∃ v, e = .returned v ∧ Gives BE w xs v w' := by
  have HN : Hid (n = xs.length) := hn
  have hb' : Hid (xs.length ≤ 140737488355328) := hb
  match a, hs with
  | none, hs =>
    have h0 : xs = [] := by rcases hs.row with h | ⟨b, off, h, _⟩; exact h; cases h
    have hnil := fun w => Lib.run_eql_slice_nil (P := Try.prog) w 22 5 none n c 0 0 Try.underlying22
    clear hn hb
    go_enter Try.func40, Try.ntmps40
    go_wp2_with fail
    go_ret
    subst h0
    exact ⟨_, rfl, none, 0, 0, rfl, (show 0 = _ by simp), own_nil _, new_none _, Keeps.refl _ _⟩
  | some ad, hs =>
    have hnil := fun w => Lib.run_eql_slice_nil (P := Try.prog) w 22 5 (some ad) n c 0 0 Try.underlying22
    clear hn hb
    go_enter Try.func40, Try.ntmps40
    go_wp2_with (at_builtin; refine wpList_app okB rfl _ _ rfl _ _ _ [] rfl rfl (own_empty okB _) _ _ _ xs rfl HN.out hs.nil (hs.row.keepsN ((Keeps.refl _ _).alloc _)) (by have := hb'.out; simp [BE]; omega) (by have := hb'.out; simp; omega) ?_; intro o' c' w' ho hap)
    go_ret
    have := hap.new (w0 := w) (new_fresh w _ (Nat.le_refl _) _) ((Keeps.refl _ _).alloc _)
    refine ⟨_, rfl, o', _, c', rfl, show _ = _ by simp [HN.out], by simpa using ho, this.1, this.2⟩

theorem sclone_any (w : World) (s : Tx) (h : s.size ≤ 281474976710656) :
    Calls Try.prog 56 #[.string s] w fun e w' => e = .returned (.string s) ∧ Keeps no w w' := by
  go_enter Try.func56, Try.ntmps56
  go_wp2_with fail
  refine (Any.stringslite_Clone Try.laysClone s w h).mono ?_
  rintro e w1 ⟨rfl, hb⟩
  go_wp2
  go_ret
  exact ⟨rfl, Keeps.of_below hb⟩

theorem isName_any (w : World) (s : Tx) : Calls Try.prog 37 #[.string s] w fun e w' => e = .returned (.bool (good s.data.toList)) ∧ w' = w := by
  have hl : s.data.toList.length = s.size := by rw [Array.length_toList]; rfl
  by_cases h1 : 1 ≤ s.size
  · by_cases h2 : s.size ≤ 32
    · go_enter Try.func37, Try.ntmps37
      go_wp2
      go_ret
      exact ⟨by simp [good, hl, h1, h2]; omega, rfl⟩
    · go_enter Try.func37, Try.ntmps37
      go_wp2
      go_ret
      exact ⟨by simp [good, hl, h1, h2]; omega, rfl⟩
  · go_enter Try.func37, Try.ntmps37
    go_wp2
    go_ret
    exact ⟨by simp [good, hl, h1], rfl⟩
theorem named_any (w : World) (s : Tx) : Calls Try.prog 61 #[.string s] w fun e w' => e = .returned (.bool (good s.data.toList)) ∧ w' = w := by
  have hl : s.data.toList.length = s.size := by rw [Array.length_toList]; rfl
  by_cases h1 : 1 ≤ s.size
  · by_cases h2 : s.size ≤ 32
    · go_enter Try.func61, Try.ntmps61
      go_wp2
      go_ret
      exact ⟨by simp [good, hl, h1, h2]; omega, rfl⟩
    · go_enter Try.func61, Try.ntmps61
      go_wp2
      go_ret
      exact ⟨by simp [good, hl, h1, h2]; omega, rfl⟩
  · go_enter Try.func61, Try.ntmps61
    go_wp2
    go_ret
    exact ⟨by simp [good, hl, h1], rfl⟩

/-! ### the power -/
theorem down_any (w : World) (p : Nat) (F : Nat → Prop) (s : St) (h : IsD w p F s) :
    Calls Try.prog 26 #[.pointer (some ⟨p, 0, none⟩)] w fun e w' => e = .returned (.bool s.off) ∧ w' = w := by
  obtain ⟨bm, c, L, h⟩ := h
  have c1 : w.cell? ⟨p, 1, none⟩ = some (.bool s.off) := cell_of_blk h.blk 1
  go_enter Try.func26, Try.ntmps26
  go_wp2
  go_ret
  exact ⟨rfl, rfl⟩
theorem DL.cells {w w' : World} {p : Nat} {F : Nat → Prop} {s s' : St} {bm : Nat} {c c' : Int} {L : LL} (h : DL w p F s bm c L) (hk : Keeps (fun k => k = p) w w') (hb : w'.heap[p]? = some (.cells (dcells bm s'.off s'.ref c' s'.keep) 68 (0, 0)))
    (hfs : s'.fs = s.fs) (hok : Ok s') (hcc : max c' (-1) = s'.calls) (hci : i64 c') (hki : i64 s'.keep) (hri : (s'.ref : Int) ≤ 9223372036854775807) : DL w' p F s' bm c' L :=
  ⟨hb, h.map.keeps hk (fun e => h.p_bm e.symm), hfs.trans h.fs, fun q hq => (h.files q hq).keeps hk ((h.files q hq).ne_p h.blk) ((h.files q hq).o_d h.blk), h.apart, h.fp, h.fm, h.ff, fun k hk' => Nat.lt_of_lt_of_le (h.lt k hk') hk.size, hok, hcc, hci, hki, hri⟩
theorem up_any (w : World) (p : Nat) (F : Nat → Prop) (s : St) (h : IsD w p F s) :
    Calls Try.prog 17 #[.pointer (some ⟨p, 0, none⟩)] w fun e w' => e = .returned (.tuple #[]) ∧ IsD w' p F (up s) ∧ Keeps F w w' := by
  obtain ⟨bm, c, L, h⟩ := h
  have c1 : w.cell? ⟨p, 1, none⟩ = some (.bool s.off) := cell_of_blk h.blk 1
  have c3 : w.cell? ⟨p, 3, none⟩ = some (.int .i64 c) := cell_of_blk h.blk 3
  have f1 : w.frozen? ⟨p, 1, none⟩ = false := frozen_of_blk h.blk 1
  have f3 : w.frozen? ⟨p, 3, none⟩ = false := frozen_of_blk h.blk 3
  go_enter Try.func17, Try.ntmps17
  go_wp2
  go_end0
  have hk := (keeps_set w p 1 (.bool false)).trans (keeps_set _ p 3 (.int .i64 (-1)))
  refine ⟨rfl, ⟨bm, -1, L, h.cells hk ?_ rfl (up_ok h.ok) (by simp [up]) (by unfold i64; omega) h.ki h.ri⟩, hk.mono (fun i e => by subst e; exact h.fp)⟩
  exact blk_set (blk_set h.blk 1 (.bool false)) 3 (.int .i64 (-1))
theorem arm_any (w : World) (p : Nat) (F : Nat → Prop) (s : St) (h : IsD w p F s) (n k : Int) (hn : i64 n) (hk : i64 k) :
    Calls Try.prog 14 #[.pointer (some ⟨p, 0, none⟩), .int .i64 n, .int .i64 k] w fun e w' => e = .returned (.tuple #[]) ∧ IsD w' p F (arm n k s) ∧ Keeps F w w' := by
  obtain ⟨bm, c, L, h⟩ := h
  have c3 : w.cell? ⟨p, 3, none⟩ = some (.int .i64 c) := cell_of_blk h.blk 3
  have c4 : w.cell? ⟨p, 4, none⟩ = some (.int .i64 s.keep) := cell_of_blk h.blk 4
  have f3 : w.frozen? ⟨p, 3, none⟩ = false := frozen_of_blk h.blk 3
  have f4 : w.frozen? ⟨p, 4, none⟩ = false := frozen_of_blk h.blk 4
  go_enter Try.func14, Try.ntmps14
  go_wp2
  go_end0
  have hk' := (keeps_set w p 3 (.int .i64 n)).trans (keeps_set _ p 4 (.int .i64 k))
  refine ⟨rfl, ⟨bm, n, L, h.cells hk' ?_ rfl (arm_ok h.ok) (by simp [arm]) hn hk h.ri⟩, hk'.mono (fun i e => by subst e; exact h.fp)⟩
  exact blk_set (blk_set h.blk 3 (.int .i64 n)) 4 (.int .i64 k)
theorem full_any (w : World) (p : Nat) (F : Nat → Prop) (s : St) (h : IsD w p F s) (n : Int) (hn : i64 n) :
    Calls Try.prog 29 #[.pointer (some ⟨p, 0, none⟩), .int .i64 n] w fun e w' => e = .returned (.tuple #[]) ∧ IsD w' p F (full n s) ∧ Keeps F w w' := by
  obtain ⟨bm, c, L, h⟩ := h
  have c2 : w.cell? ⟨p, 2, none⟩ = some (.int .i64 ((s.ref : Nat) : Int)) := cell_of_blk h.blk 2
  have f2 : w.frozen? ⟨p, 2, none⟩ = false := frozen_of_blk h.blk 2
  have HE : Hid (max n 0 = ((n.toNat : Nat) : Int)) := (show _ = _ by omega)
  go_enter Try.func29, Try.ntmps29
  go_wp2
  go_end0
  rw [HE.out]
  have hk := keeps_set w p 2 (.int .i64 ((n.toNat : Nat) : Int))
  refine ⟨rfl, ⟨bm, c, L, h.cells hk ?_ rfl (full_ok h.ok) h.cc h.ci h.ki (by have := hn.2; simp [full]; omega)⟩, hk.mono (fun i e => by subst e; exact h.fp)⟩
  exact blk_set h.blk 2 (.int .i64 ((n.toNat : Nat) : Int))
theorem new_any (w : World) : Calls Try.prog 10 #[] w fun e w' => ∃ p, e = .returned (.pointer (some ⟨p, 0, none⟩)) ∧ IsD w' p (fun k => w.heap.size ≤ k ∧ k < w'.heap.size) Dk.new ∧ Keeps no w w' := by
  have hmm := @run_makeMap Try.prog
  go_enter Try.func10, Try.ntmps10
  go_wp2
  go_ret
  refine ⟨_, rfl, ⟨w.heap.size, -1, [], ?_⟩, ((Keeps.refl _ _).alloc _).alloc _⟩
  have hb := blk_new (w.alloc (.map #[] 0)) (.cells (dcells w.heap.size new.off new.ref (-1) new.keep) 68)
  rw [show (w.alloc (.map #[] 0)).heap.size = w.heap.size + 1 by simp] at hb
  refine ⟨hb, ?_, rfl, by simp, List.Pairwise.nil, by simp, by simp; omega, by simp, fun k hk => hk.2, new_ok, rfl, by unfold i64; omega, by simp [new, i64], by simp [new]⟩
  exact (World.ownsMap_made w Try.prog 9 R70).alloc _
end Go.Proofs.Ytgobakfffobpkaa
