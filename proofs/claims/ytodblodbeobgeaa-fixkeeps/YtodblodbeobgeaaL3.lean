/- The statements' worlds of writes: made, version. -/
import Derived.Test.YtodblodbeobgeaaL2
import Derived.Laws.Concat
import Derived.Deep.RegionHeld3
import Derived.Deep.RegionHeldLaw
namespace Go.Proofs.Ytodblodbeobgeaa
open Go.RowKit Go.Sort Orl
set_option linter.unusedVariables false
set_option linter.unusedSimpArgs false

def ZE : El Int := ⟨3, 22, 1, 8, fun z => [.int .i64 z]⟩
theorem infoZ : (Try.prog.info? 3).map (fun i => (i.zero, i.size, i.bytes)) = some (some (.int .i64 0), 1, 8) := by kernel_rfl
theorem okZ : ZE.Ok := by
  obtain ⟨i0, hi, hz0, hz1, hz2⟩ := info_parts infoZ
  exact ⟨fun _ => rfl, fun x u hu => by simp [ZE] at hu; subst hu; rfl, by decide, Try.underlying22, i0, _, hi, hz0, hz1, hz2, rfl⟩
theorem Sl.atZ {w : World} {a : Option Addr} {c : Nat} {xs : List Int} (h : Sl ZE w a c xs) {j : Nat} (hj : j < xs.length) : ∃ b off, a = some ⟨b, off, none⟩ ∧ w.cell? ⟨b, off + j, none⟩ = some (.int .i64 (xs.getD j 0)) := by
  rcases h.row with e | ⟨b, off, rfl, hc⟩
  · subst e; simp at hj
  · refine ⟨b, off, rfl, hc j _ ?_⟩
    have := cells_at okZ 0 xs j 0 hj (by decide)
    simpa [ZE] using this

/-- the keys of the write number n; what it put under a key -/
def KM (ms : List Int) (n : Nat) : List Tx := setM (ms.getD n 0)
def VM (n : Nat) (k : Tx) : Tx := k ++ mkL [(n : Int)]
abbrev madeV (ms : List Int) (n : Nat) (k : Tx) : Ver := verW (KM ms) VM n k

/-- a struct told: its version -/
def GiveV (w : World) (v : Ver) (u : Value) (w' : World) : Prop := ∃ o n c, u = .agg #[.string v.key, .int .u64 (v.id : Nat), .string v.val, .slice o n c] ∧ Hid (n = v.keys.length) ∧ Own TE w' o c v.keys ∧ New w o ∧ Keeps no w w'

def eqB (B : Nat) : Nat → Prop := fun k => k = B
theorem cells4 {w : World} {B : Nat} {t : TypeId} {a0 a1 a2 a3 : Value} (h : w.heap[B]? = some (.cells #[a0, a1, a2, a3] t (0, 0))) : w.cell? ⟨B, 0, none⟩ = some a0 ∧ w.cell? ⟨B, 1, none⟩ = some a1 ∧ w.cell? ⟨B, 2, none⟩ = some a2 ∧ w.cell? ⟨B, 3, none⟩ = some a3 := by
  refine ⟨?_, ?_, ?_, ?_⟩ <;> rw [cell_of_blk h] <;> rfl
theorem set4 {w : World} {B : Nat} {t : TypeId} {a0 a1 a2 a3 b0 b1 b2 b3 : Value} (h : w.heap[B]? = some (.cells #[a0, a1, a2, a3] t (0, 0))) :
    ((((w.setCell ⟨B, 0, none⟩ b0).setCell ⟨B, 1, none⟩ b1).setCell ⟨B, 2, none⟩ b2).setCell ⟨B, 3, none⟩ b3).heap[B]? = some (.cells #[b0, b1, b2, b3] t (0, 0)) ∧ Keeps (eqB B) w ((((w.setCell ⟨B, 0, none⟩ b0).setCell ⟨B, 1, none⟩ b1).setCell ⟨B, 2, none⟩ b2).setCell ⟨B, 3, none⟩ b3) :=
  ⟨blk_set (blk_set (blk_set (blk_set h 0 b0) 1 b1) 2 b2) 3 b3, (((((Keeps.refl (eqB B) w).setCell (p := ⟨B, 0, none⟩) (.inl (show eqB B B from rfl)) b0).setCell (p := ⟨B, 1, none⟩) (.inl (show eqB B B from rfl)) b1).setCell (p := ⟨B, 2, none⟩) (.inl (show eqB B B from rfl)) b2).setCell (p := ⟨B, 3, none⟩) (.inl (show eqB B B from rfl)) b3)⟩
set_option maxRecDepth 10000 in
set_option maxHeartbeats 1000000 in
theorem made_any (w : World) (om : Option Addr) (nm cm : Nat) (ms : List Int) (i : Nat) (k : Tx) (hnm : nm = ms.length) (hi : i < ms.length) (hlen : ms.length ≤ 60) (hk : k.size ≤ 1000) (hI : ∀ z ∈ ms, I64 z) (hs : Sl ZE w om cm ms) :
    Calls Try.prog 19 #[.slice om nm cm, .int .i64 ((i : Nat) : Int), .string k] w fun e w' => ∃ u, e = .returned u ∧ GiveV w (madeV ms i k) u w' := by
  obtain ⟨bm, off, rfl, d0⟩ := hs.atZ hi
  have hz : I64 (ms.getD i 0) := hI _ (getD_mem_lt 0 hi)
  have HKM : Hid (KM ms i = setM (ms.getD i 0)) := rfl
  generalize ms.getD i 0 = z at d0 hz HKM
  have hi1 : (i : Int) < nm := by omega
  have hi2 : (i : Int) < 60 := by omega
  have hi3 : (65536 : Int) * ((i : Int) + 1) < 18446744073709551616 := by omega
  clear hs hI hnm hi hlen
  obtain ⟨S, hS⟩ : ∃ S, S = mkL [(i : Int)] := ⟨_, rfl⟩
  have hadd : ∀ w, (Op.stringOp .add k S).run Try.prog w = .ok (.string (k ++ S)) w := fun w => run_string_add_sum (P := Try.prog) (w := w) k S (by rw [hS]; have : (mkL [(i : Int)]).size = 1 := rfl; omega)
  have HC : Hid (∀ (W : World) (B : Nat), W.heap[B]? = some (.cells #[.int .u8 (i : Int)] 5 (0, 0)) → (convert 61 9 (.slice (some ⟨B, 0, none⟩) 1 1)).run Try.prog W = .ok (.string S) W) := fun W B h => by rw [hS]; exact conv1 W B i h
  have HSS : Hid (S = mkL [(i : Int)]) := hS
  clear hS
  go_enter Try.func19, Try.ntmps19
  go_wp2_with fail
  have hbk := blk_new w (.cells #[.string ⟨#[]⟩, .int .u64 0, .string ⟨#[]⟩, .slice none 0 0] 32)
  have hk0 := (Keeps.refl no w).alloc (.cells #[.string ⟨#[]⟩, .int .u64 0, .string ⟨#[]⟩, .slice none 0 0] 32)
  generalize hB : w.heap.size = B at hbk ⊢
  generalize w.alloc (.cells #[.string ⟨#[]⟩, .int .u64 0, .string ⟨#[]⟩, .slice none 0 0] 32) = w1 at hbk hk0 ⊢
  have HB : Hid (w.heap.size = B ∧ Keeps no w w1 ∧ w1.heap[B]? = some (.cells #[.string ⟨#[]⟩, .int .u64 0, .string ⟨#[]⟩, .slice none 0 0] 32 (0, 0))) := ⟨hB, hk0, hbk⟩
  have g0 := hk0.cellN d0
  have HD0 : Hid (w.cell? ⟨bm, off + i, none⟩ = some (.int .i64 z)) := d0
  clear hB hk0 hbk d0
  have HKS := fun W => keys_any z W hz
  obtain ⟨J, M, e1, e2, e3, HJ⟩ : ∃ J M : Int, IntKind.i64.wrap ((i : Int) + 1) = J ∧ IntKind.i64.wrap (65536 * J) = M ∧ IntKind.u64.wrap M = M ∧ Hid (M = ((65536 * (i + 1) : Nat) : Int)) := by
    refine ⟨(i : Int) + 1, 65536 * ((i : Int) + 1), ?_, ?_, ?_, show _ = _ by omega⟩
    · rw [IntKind.wrap_i64]; omega
    · rw [IntKind.wrap_i64]; omega
    · rw [IntKind.wrap_u64]; omega
  have e4 : IntKind.u8.wrap (i : Int) = (i : Int) := by rw [IntKind.wrap_u8]; omega
  clear hi3
  have HKS' : Hid (∀ W, Calls Try.prog 20 #[.int .i64 z] W fun e w' => ∃ v, e = .returned v ∧ Gives TE W (setM z) v w') := HKS
  clear HKS
  have HNB : Hid (¬ eqB B bm) := fun e => by have := World.block_lt_of_cell? w _ (HD0.out); unfold eqB at e; have := HB.out.1; simp only at *; omega
  refine wp_region_held_drew (S := fun w' => Keeps (eqB B) w1 w') (by kernel_rfl) ?_ (fun hHeld => ?_)
  · exact (Keeps.refl _ _).drew
  refine wpAnyH_take (i := 0) (v := ?_) (by simp only [List.getElem?_toArray, List.getElem?_cons_succ, List.getElem?_cons_zero]; rfl) (by kernel_rfl) (by kernel_rfl) (by kernel_rfl) (by exact fun _ _ _ h => h) (Or.inl ⟨by rfl, ?_⟩) (by assumption) ?_
  rotate_left
  · (intro _ hSw; (try dsimp only at hSw); go_simp; (try with_reducible rfl))
  try simp only [Act.put, List.setIfInBounds_toArray, List.set_cons_zero, List.set_cons_succ]
  refine wpAnyH_take (i := 1) (v := ?_) (by simp only [List.getElem?_toArray, List.getElem?_cons_succ, List.getElem?_cons_zero]; rfl) (by kernel_rfl) (by kernel_rfl) (by kernel_rfl) (by exact fun _ _ _ h => h) (Or.inl ⟨by rfl, ?_⟩) (by assumption) ?_
  rotate_left
  · (intro _ hSw; (try dsimp only at hSw); go_simp; (try with_reducible rfl))
  try simp only [Act.put, List.setIfInBounds_toArray, List.set_cons_zero, List.set_cons_succ]
  refine wpAnyH_take (i := 2) (v := ?_) (by simp only [List.getElem?_toArray, List.getElem?_cons_succ, List.getElem?_cons_zero]; rfl) (by kernel_rfl) (by kernel_rfl) (by kernel_rfl) (by exact fun _ _ _ h => h) (Or.inl ⟨by rfl, ?_⟩) (by assumption) ?_
  rotate_left
  · (intro _ hSw; (try dsimp only at hSw); go_simp; (try with_reducible rfl))
  try simp only [Act.put, List.setIfInBounds_toArray, List.set_cons_zero, List.set_cons_succ]
  refine wpAnyH_take (i := 3) (v := ?_) (by simp only [List.getElem?_toArray, List.getElem?_cons_succ, List.getElem?_cons_zero]; rfl) (by kernel_rfl) (by kernel_rfl) (by kernel_rfl) (by exact fun _ _ _ h => h) (Or.inl ⟨by rfl, ?_⟩) (by assumption) ?_
  rotate_left
  · (intro _ hSw; (try dsimp only at hSw); go_simp; (try with_reducible rfl))
  try simp only [Act.put, List.setIfInBounds_toArray, List.set_cons_zero, List.set_cons_succ]
  refine wpAnyH_take (i := 4) (v := ?_) (by simp only [List.getElem?_toArray, List.getElem?_cons_succ, List.getElem?_cons_zero]; rfl) (by kernel_rfl) (by kernel_rfl) (by kernel_rfl) (by exact fun _ _ _ h => h) (Or.inl ⟨by rfl, ?_⟩) (by assumption) ?_
  rotate_left
  · (intro _ hSw; (try dsimp only at hSw); go_simp; (try with_reducible rfl))
  try simp only [Act.put, List.setIfInBounds_toArray, List.set_cons_zero, List.set_cons_succ]
  refine wpAnyH_take (i := 5) (v := ?_) (by simp only [List.getElem?_toArray, List.getElem?_cons_succ, List.getElem?_cons_zero]; rfl) (by kernel_rfl) (by kernel_rfl) (by kernel_rfl) (by exact fun _ _ _ h => h) (Or.inl ⟨by rfl, ?_⟩) (by assumption) ?_
  rotate_left
  · (intro _ hSw; (try dsimp only at hSw); go_simp; (try with_reducible rfl))
  try simp only [Act.put, List.setIfInBounds_toArray, List.set_cons_zero, List.set_cons_succ]
  refine wpAnyH_take (i := 6) (v := ?_) (by simp only [List.getElem?_toArray, List.getElem?_cons_succ, List.getElem?_cons_zero]; rfl) (by kernel_rfl) (by kernel_rfl) (by kernel_rfl) (by exact fun _ _ _ h => h) (Or.inl ⟨by rfl, ?_⟩) (by assumption) ?_
  rotate_left
  · (intro _ hSw; (try dsimp only at hSw); go_simp; (try with_reducible rfl))
  try simp only [Act.put, List.setIfInBounds_toArray, List.set_cons_zero, List.set_cons_succ]
  refine wpAnyH_take (i := 7) (v := ?_) (by simp only [List.getElem?_toArray, List.getElem?_cons_succ, List.getElem?_cons_zero]; rfl) (by kernel_rfl) (by kernel_rfl) (by kernel_rfl) (by exact fun _ _ _ h => h) (Or.inl ⟨by rfl, ?_⟩) (by assumption) ?_
  rotate_left
  · (intro _ hSw; (try dsimp only at hSw); go_simp; (try with_reducible rfl))
  try simp only [Act.put, List.setIfInBounds_toArray, List.set_cons_zero, List.set_cons_succ]
  refine wpAnyH_take (i := 11) (v := ?_) (by simp only [List.getElem?_toArray, List.getElem?_cons_succ, List.getElem?_cons_zero]; rfl) (by kernel_rfl) (by kernel_rfl) (by kernel_rfl) (by exact fun _ _ _ h => h) (Or.inl ⟨by rfl, ?_⟩) (by assumption) ?_
  rotate_left
  · (intro _ hSw; (try dsimp only at hSw); go_simp; (try with_reducible rfl))
  try simp only [Act.put, List.setIfInBounds_toArray, List.set_cons_zero, List.set_cons_succ]
  refine wpAnyH_take (i := 12) (v := ?_) (by simp only [List.getElem?_toArray, List.getElem?_cons_succ, List.getElem?_cons_zero]; rfl) (by kernel_rfl) (by kernel_rfl) (by kernel_rfl) (by exact fun _ _ _ h => h) (Or.inl ⟨by rfl, ?_⟩) (by assumption) ?_
  rotate_left
  · (intro _ hSw; (try dsimp only at hSw); go_simp; (try with_reducible rfl))
  try simp only [Act.put, List.setIfInBounds_toArray, List.set_cons_zero, List.set_cons_succ]
  refine wpAnyH_take (i := 13) (v := ?_) (by simp only [List.getElem?_toArray, List.getElem?_cons_succ, List.getElem?_cons_zero]; rfl) (by kernel_rfl) (by kernel_rfl) (by kernel_rfl) (by exact fun _ _ _ h => h) (Or.inl ⟨by rfl, ?_⟩) (by assumption) ?_
  rotate_left
  · (intro _ hSw; (try dsimp only at hSw); go_simp; (try with_reducible rfl))
  try simp only [Act.put, List.setIfInBounds_toArray, List.set_cons_zero, List.set_cons_succ]
  refine wpAnyH_take (i := 14) (v := ?_) (by simp only [List.getElem?_toArray, List.getElem?_cons_succ, List.getElem?_cons_zero]; rfl) (by kernel_rfl) (by kernel_rfl) (by kernel_rfl) (by exact fun _ _ _ h => h) (Or.inl ⟨by rfl, ?_⟩) (by assumption) ?_
  rotate_left
  · (intro _ hSw; (try dsimp only at hSw); have g9 := hSw.cell g0 HNB.out; go_simp; (try with_reducible rfl))
  try simp only [Act.put, List.setIfInBounds_toArray, List.set_cons_zero, List.set_cons_succ]
  have hHeld := hHeld
  refine wpAnyH_ready (rs := [8, 15]) (by kernel_rfl) (by simp) ?_
  refine AllReadyH.cons (by simp only [List.getElem?_toArray, List.getElem?_cons_succ, List.getElem?_cons_zero]; rfl) (fun Kq hKq => ?_) (AllReadyH.cons (by simp only [List.getElem?_toArray, List.getElem?_cons_succ, List.getElem?_cons_zero]; rfl) (fun Kq hKq => ?_) AllReadyH.nil)
  · go_simp
    have q0 : ((w1.alloc (.cells #[.int .u8 (i : Int)] 5)).drew).heap[w1.heap.size]? = some (.cells #[.int .u8 (i : Int)] 5 (0, 0)) := blk_new w1 (.cells #[.int .u8 (i : Int)] 5)
    have q1 : Keeps no w1 ((w1.alloc (.cells #[.int .u8 (i : Int)] 5)).drew) := ((Keeps.refl no w1).alloc (.cells #[.int .u8 (i : Int)] 5)).drew
    have hx : Keeps (eqB B) w1 _ := q1.of_no
    generalize w1.heap.size = BB at q0 ⊢
    generalize (w1.alloc (.cells #[.int .u8 (i : Int)] 5)).drew = X at q0 q1 hx ⊢
    refine hKq.out _ _ ?_ (fun hHeldN => ?_)
    · exact hx
    clear hKq Kq hHeld
    have hHeld := hHeldN
    clear hHeldN
    refine wpAnyH_ready (rs := [9, 15]) (by kernel_rfl) (by simp) ?_
    refine AllReadyH.cons (by simp only [List.getElem?_toArray, List.getElem?_cons_succ, List.getElem?_cons_zero]; rfl) (fun Kq hKq => ?_) (AllReadyH.cons (by simp only [List.getElem?_toArray, List.getElem?_cons_succ, List.getElem?_cons_zero]; rfl) (fun Kq hKq => ?_) AllReadyH.nil)
    · have cc := HC.out X BB q0
      go_simp
      refine hKq.out _ _ ?_ (fun hHeldN => ?_)
      · exact hHeld
      clear hKq Kq hHeld
      have hHeld := hHeldN
      clear hHeldN
      clear cc
      refine wpAnyH_take (i := 10) (v := ?_) (by simp only [List.getElem?_toArray, List.getElem?_cons_succ, List.getElem?_cons_zero]; rfl) (by kernel_rfl) (by kernel_rfl) (by kernel_rfl) (by exact fun _ _ _ h => h) (Or.inl ⟨by rfl, ?_⟩) (by assumption) ?_
      rotate_left
      · (intro _ hSw; (try dsimp only at hSw); go_simp; (try with_reducible rfl))
      try simp only [Act.put, List.setIfInBounds_toArray, List.set_cons_zero, List.set_cons_succ]
      refine wpAnyH_ready (rs := [15]) (by kernel_rfl) (by simp) ?_
      refine AllReadyH.cons (by simp only [List.getElem?_toArray, List.getElem?_cons_succ, List.getElem?_cons_zero]; rfl) (fun Kq hKq => ?_) AllReadyH.nil
      go_simp
      refine (HKS'.out X).mono ?_
      rintro e w2 ⟨_, rfl, o2, n2, c2, rfl, hn2, ho2, hw2, hk2⟩
      have hx := hHeld.trans hk2.of_no
      refine hKq.out _ _ ?_ (fun hHeldN => ?_)
      · exact hx
      clear hKq Kq hHeld
      have hHeld := hHeldN
      clear hHeldN
      refine wpAnyH_take (i := 16) (v := ?_) (by simp only [List.getElem?_toArray, List.getElem?_cons_succ, List.getElem?_cons_zero]; rfl) (by kernel_rfl) (by kernel_rfl) (by kernel_rfl) (by exact fun _ _ _ h => h) (Or.inl ⟨by rfl, ?_⟩) (by assumption) ?_
      rotate_left
      · (intro _ hSw; (try dsimp only at hSw); go_simp; (try with_reducible rfl))
      try simp only [Act.put, List.setIfInBounds_toArray, List.set_cons_zero, List.set_cons_succ]
      refine wpAnyH_ready (rs := [17]) (by kernel_rfl) (by simp) ?_
      refine AllReadyH.cons (by simp only [List.getElem?_toArray, List.getElem?_cons_succ, List.getElem?_cons_zero]; rfl) (fun Kq hKq => ?_) AllReadyH.nil
      have hN : Keeps no w1 w2 := q1.trans hk2
      have hO : Own TE w2 o2 c2 (setM z) := ho2
      have hz0 := hN.at HB.out.2.2 id
      obtain ⟨x0, x1, x2, x3⟩ := cells4 hz0
      have f0 := frozen_of_blk hz0 0
      have f1 := frozen_of_blk hz0 1
      have f2 := frozen_of_blk hz0 2
      have f3 := frozen_of_blk hz0 3
      have hS4 := set4 (b0 := .string k) (b1 := .int .u64 M) (b2 := .string (k ++ S)) (b3 := .slice o2 n2 c2) hz0
      skip
      go_simp
      have hx4 := hN.of_no.trans hS4.2
      have hnn : ∀ q, inO o2 q → w1.heap.size ≤ q := fun q hq => Nat.le_trans q1.size (hw2 q hq)
      have hO4 := hO.keeps hS4.2 (fun q hq e => by have h1 := hnn q hq; have h2 := lt_of_block HB.out.2.2; unfold eqB at e; omega)
      generalize (((w2.setCell ⟨B, 0, none⟩ (.string k)).setCell ⟨B, 1, none⟩ (.int .u64 M)).setCell ⟨B, 2, none⟩ (.string (k ++ S))).setCell ⟨B, 3, none⟩ (.slice o2 n2 c2) = w9 at hS4 hx4 hO4 ⊢
      refine hKq.out _ _ ?_ (fun hHeldN => ?_)
      · exact hx4
      clear hKq Kq hHeld
      have hHeld := hHeldN
      clear hHeldN
      refine wpAnyH_done (by kernel_rfl) ?_ _
      clear x0 x1 x2 x3 f0 f1 f2 f3
      go_wp2_with fail
      (try simp only [Exit.inBlock, Exit.then])
      refine bodyPost_ret (results_row1 rfl _ _ B _ rfl (run_loadVar_row _ _ _ _ _ _ _ hS4.1 Try.underlying32 rfl (ver_size _ _ _ _))) rfl ?_
      refine ⟨_, rfl, o2, n2, c2, ?_, ?_, ?_, ?_, ?_⟩
      · rw [HJ.out, HSS.out]; rfl
      · show n2 = (KM ms i).length; rw [HKM.out]; exact hn2.out
      · show Own TE w9 o2 c2 (KM ms i); rw [HKM.out]; exact hO4
      · exact fun q hq => Nat.le_trans HB.out.2.1.size (hnn q hq)
      · exact HB.out.2.1.then hx4 (fun q hq => .inr (by have := HB.out.1; unfold eqB at hq; omega))
    · go_simp
      refine (HKS'.out X).mono ?_
      rintro e w2 ⟨_, rfl, o2, n2, c2, rfl, hn2, ho2, hw2, hk2⟩
      have hx := hHeld.trans hk2.of_no
      have q0 := hk2.at q0 id
      refine hKq.out _ _ ?_ (fun hHeldN => ?_)
      · exact hx
      clear hKq Kq hHeld
      have hHeld := hHeldN
      clear hHeldN
      refine wpAnyH_ready (rs := [9]) (by kernel_rfl) (by simp) ?_
      refine AllReadyH.cons (by simp only [List.getElem?_toArray, List.getElem?_cons_succ, List.getElem?_cons_zero]; rfl) (fun Kq hKq => ?_) AllReadyH.nil
      have cc := HC.out w2 BB q0
      go_simp
      refine hKq.out _ _ ?_ (fun hHeldN => ?_)
      · exact hHeld
      clear hKq Kq hHeld
      have hHeld := hHeldN
      clear hHeldN
      clear cc
      refine wpAnyH_take (i := 10) (v := ?_) (by simp only [List.getElem?_toArray, List.getElem?_cons_succ, List.getElem?_cons_zero]; rfl) (by kernel_rfl) (by kernel_rfl) (by kernel_rfl) (by exact fun _ _ _ h => h) (Or.inl ⟨by rfl, ?_⟩) (by assumption) ?_
      rotate_left
      · (intro _ hSw; (try dsimp only at hSw); go_simp; (try with_reducible rfl))
      try simp only [Act.put, List.setIfInBounds_toArray, List.set_cons_zero, List.set_cons_succ]
      refine wpAnyH_take (i := 16) (v := ?_) (by simp only [List.getElem?_toArray, List.getElem?_cons_succ, List.getElem?_cons_zero]; rfl) (by kernel_rfl) (by kernel_rfl) (by kernel_rfl) (by exact fun _ _ _ h => h) (Or.inl ⟨by rfl, ?_⟩) (by assumption) ?_
      rotate_left
      · (intro _ hSw; (try dsimp only at hSw); go_simp; (try with_reducible rfl))
      try simp only [Act.put, List.setIfInBounds_toArray, List.set_cons_zero, List.set_cons_succ]
      refine wpAnyH_ready (rs := [17]) (by kernel_rfl) (by simp) ?_
      refine AllReadyH.cons (by simp only [List.getElem?_toArray, List.getElem?_cons_succ, List.getElem?_cons_zero]; rfl) (fun Kq hKq => ?_) AllReadyH.nil
      have hN : Keeps no w1 w2 := q1.trans hk2
      have hO : Own TE w2 o2 c2 (setM z) := ho2
      have hz0 := hN.at HB.out.2.2 id
      obtain ⟨x0, x1, x2, x3⟩ := cells4 hz0
      have f0 := frozen_of_blk hz0 0
      have f1 := frozen_of_blk hz0 1
      have f2 := frozen_of_blk hz0 2
      have f3 := frozen_of_blk hz0 3
      have hS4 := set4 (b0 := .string k) (b1 := .int .u64 M) (b2 := .string (k ++ S)) (b3 := .slice o2 n2 c2) hz0
      skip
      go_simp
      have hx4 := hN.of_no.trans hS4.2
      have hnn : ∀ q, inO o2 q → w1.heap.size ≤ q := fun q hq => Nat.le_trans q1.size (hw2 q hq)
      have hO4 := hO.keeps hS4.2 (fun q hq e => by have h1 := hnn q hq; have h2 := lt_of_block HB.out.2.2; unfold eqB at e; omega)
      generalize (((w2.setCell ⟨B, 0, none⟩ (.string k)).setCell ⟨B, 1, none⟩ (.int .u64 M)).setCell ⟨B, 2, none⟩ (.string (k ++ S))).setCell ⟨B, 3, none⟩ (.slice o2 n2 c2) = w9 at hS4 hx4 hO4 ⊢
      refine hKq.out _ _ ?_ (fun hHeldN => ?_)
      · exact hx4
      clear hKq Kq hHeld
      have hHeld := hHeldN
      clear hHeldN
      refine wpAnyH_done (by kernel_rfl) ?_ _
      clear x0 x1 x2 x3 f0 f1 f2 f3
      go_wp2_with fail
      (try simp only [Exit.inBlock, Exit.then])
      refine bodyPost_ret (results_row1 rfl _ _ B _ rfl (run_loadVar_row _ _ _ _ _ _ _ hS4.1 Try.underlying32 rfl (ver_size _ _ _ _))) rfl ?_
      refine ⟨_, rfl, o2, n2, c2, ?_, ?_, ?_, ?_, ?_⟩
      · rw [HJ.out, HSS.out]; rfl
      · show n2 = (KM ms i).length; rw [HKM.out]; exact hn2.out
      · show Own TE w9 o2 c2 (KM ms i); rw [HKM.out]; exact hO4
      · exact fun q hq => Nat.le_trans HB.out.2.1.size (hnn q hq)
      · exact HB.out.2.1.then hx4 (fun q hq => .inr (by have := HB.out.1; unfold eqB at hq; omega))
  · go_simp
    refine (HKS'.out w1.drew).mono ?_
    rintro e w2 ⟨_, rfl, o2, n2, c2, rfl, hn2, ho2, hw2, hk2⟩
    have hx := hHeld.trans hk2.of_no
    refine hKq.out _ _ ?_ (fun hHeldN => ?_)
    · exact hx
    clear hKq Kq hHeld
    have hHeld := hHeldN
    clear hHeldN
    refine wpAnyH_ready (rs := [8]) (by kernel_rfl) (by simp) ?_
    refine AllReadyH.cons (by simp only [List.getElem?_toArray, List.getElem?_cons_succ, List.getElem?_cons_zero]; rfl) (fun Kq hKq => ?_) AllReadyH.nil
    go_simp
    have q0 := blk_new w2 (.cells #[.int .u8 (i : Int)] 5)
    have q1 := (Keeps.refl no w2).alloc (.cells #[.int .u8 (i : Int)] 5)
    have hx := hHeld.trans q1.of_no
    generalize w2.heap.size = BB at q0 ⊢
    generalize w2.alloc (.cells #[.int .u8 (i : Int)] 5) = X at q0 q1 hx ⊢
    refine hKq.out _ _ ?_ (fun hHeldN => ?_)
    · exact hx
    clear hKq Kq hHeld
    have hHeld := hHeldN
    clear hHeldN
    refine wpAnyH_ready (rs := [9]) (by kernel_rfl) (by simp) ?_
    refine AllReadyH.cons (by simp only [List.getElem?_toArray, List.getElem?_cons_succ, List.getElem?_cons_zero]; rfl) (fun Kq hKq => ?_) AllReadyH.nil
    have cc := HC.out X BB q0
    go_simp
    refine hKq.out _ _ ?_ (fun hHeldN => ?_)
    · exact hHeld
    clear hKq Kq hHeld
    have hHeld := hHeldN
    clear hHeldN
    clear cc
    refine wpAnyH_take (i := 10) (v := ?_) (by simp only [List.getElem?_toArray, List.getElem?_cons_succ, List.getElem?_cons_zero]; rfl) (by kernel_rfl) (by kernel_rfl) (by kernel_rfl) (by exact fun _ _ _ h => h) (Or.inl ⟨by rfl, ?_⟩) (by assumption) ?_
    rotate_left
    · (intro _ hSw; (try dsimp only at hSw); go_simp; (try with_reducible rfl))
    try simp only [Act.put, List.setIfInBounds_toArray, List.set_cons_zero, List.set_cons_succ]
    refine wpAnyH_take (i := 16) (v := ?_) (by simp only [List.getElem?_toArray, List.getElem?_cons_succ, List.getElem?_cons_zero]; rfl) (by kernel_rfl) (by kernel_rfl) (by kernel_rfl) (by exact fun _ _ _ h => h) (Or.inl ⟨by rfl, ?_⟩) (by assumption) ?_
    rotate_left
    · (intro _ hSw; (try dsimp only at hSw); go_simp; (try with_reducible rfl))
    try simp only [Act.put, List.setIfInBounds_toArray, List.set_cons_zero, List.set_cons_succ]
    refine wpAnyH_ready (rs := [17]) (by kernel_rfl) (by simp) ?_
    refine AllReadyH.cons (by simp only [List.getElem?_toArray, List.getElem?_cons_succ, List.getElem?_cons_zero]; rfl) (fun Kq hKq => ?_) AllReadyH.nil
    have hN : Keeps no w1 X := ((Keeps.refl no w1).drew.trans hk2).trans q1
    have hO : Own TE X o2 c2 (setM z) := ho2.keepsN q1
    have hz0 := hN.at HB.out.2.2 id
    obtain ⟨x0, x1, x2, x3⟩ := cells4 hz0
    have f0 := frozen_of_blk hz0 0
    have f1 := frozen_of_blk hz0 1
    have f2 := frozen_of_blk hz0 2
    have f3 := frozen_of_blk hz0 3
    have hS4 := set4 (b0 := .string k) (b1 := .int .u64 M) (b2 := .string (k ++ S)) (b3 := .slice o2 n2 c2) hz0
    skip
    go_simp
    have hx4 := hN.of_no.trans hS4.2
    have hnn : ∀ q, inO o2 q → w1.heap.size ≤ q := fun q hq => hw2 q hq
    have hO4 := hO.keeps hS4.2 (fun q hq e => by have h1 := hnn q hq; have h2 := lt_of_block HB.out.2.2; unfold eqB at e; omega)
    generalize (((X.setCell ⟨B, 0, none⟩ (.string k)).setCell ⟨B, 1, none⟩ (.int .u64 M)).setCell ⟨B, 2, none⟩ (.string (k ++ S))).setCell ⟨B, 3, none⟩ (.slice o2 n2 c2) = w9 at hS4 hx4 hO4 ⊢
    refine hKq.out _ _ ?_ (fun hHeldN => ?_)
    · exact hx4
    clear hKq Kq hHeld
    have hHeld := hHeldN
    clear hHeldN
    refine wpAnyH_done (by kernel_rfl) ?_ _
    clear x0 x1 x2 x3 f0 f1 f2 f3
    go_wp2_with fail
    (try simp only [Exit.inBlock, Exit.then])
    refine bodyPost_ret (results_row1 rfl _ _ B _ rfl (run_loadVar_row _ _ _ _ _ _ _ hS4.1 Try.underlying32 rfl (ver_size _ _ _ _))) rfl ?_
    refine ⟨_, rfl, o2, n2, c2, ?_, ?_, ?_, ?_, ?_⟩
    · rw [HJ.out, HSS.out]; rfl
    · show n2 = (KM ms i).length; rw [HKM.out]; exact hn2.out
    · show Own TE w9 o2 c2 (KM ms i); rw [HKM.out]; exact hO4
    · exact fun q hq => Nat.le_trans HB.out.2.1.size (hnn q hq)
    · exact HB.out.2.1.then hx4 (fun q hq => .inr (by have := HB.out.1; unfold eqB at hq; omega))
end Go.Proofs.Ytodblodbeobgeaa
