/- turned: some partition and some message. -/
import Derived.Test.YtghnhkhhpeoheaaGreatQ3
import Derived.Test.YtghnhkhhpeoheaaGreatZ3
namespace Go.Proofs.YtghnhkhhpeoheaaGreat
open Go.RowKit Go.Sort Orl
set_option linter.unusedVariables false
set_option linter.unusedSimpArgs false

theorem i64_and16 (n : Int) : bits .and .i64 n 65535 = n % 65536 := by
  have h1 : (BitVec.ofInt 64 65535).toNat = 2 ^ 16 - 1 := by decide
  have key : (BitVec.ofInt 64 n &&& BitVec.ofInt 64 65535).toNat = (n % ((2 ^ 64 : Nat) : Int)).toNat % 2 ^ 16 := by
    rw [BitVec.toNat_and, BitVec.toNat_ofInt, h1, Nat.and_two_pow_sub_one_eq_mod]
  show IntKind.i64.wrap ((BitVec.ofInt 64 n &&& BitVec.ofInt 64 65535).toNat : Nat) = n % 65536
  rw [key, IntKind.wrap_i64]
  omega
/-- two results, the second a struct in a cell -/
theorem results_rowT {fn : Func} {p u : Tmp} {ty : TypeId} (h : fn.results = #[.tmp u, .cell p ty]) (tmps : Array Value) (w : World) (g : Nat) (cs : Array Value)
    (hp : tmps.getD p undef = .pointer (some ⟨g, 0, none⟩)) (hl : (loadVar ty ⟨g, 0, none⟩).run Tryz.prog w = .ok (.agg cs) w) :
    (results fn tmps).run Tryz.prog w = .ok (.tuple #[tmps.getD u undef, .agg cs]) w := by
  have hp' : tmps[p]?.getD undef = .pointer (some ⟨g, 0, none⟩) := by simpa using hp
  simp [results, h, hp', asAddr, hl]
def TurnTo (w : World) (e : Ending) (w' : World) : Prop := ∃ (part kd cl : Int) (req id : Nat) (v4 : Option Addr) (n4 c4 : Nat) (v5 : Option Addr) (n5 c5 : Nat) (v6 : Option Addr) (n6 c6 : Nat) (v7 : Option Addr) (n7 c7 : Nat), e = .returned (.tuple #[.int .i64 part, .agg #[.int .i64 kd, .int .i64 cl, .int .u64 (req : Nat), .int .u64 (id : Nat), .slice v4 n4 c4, .slice v5 n5 c5, .slice v6 n6 c6, .slice v7 n7 c7]]) ∧ Hid (req < 18446744073709551616 ∧ id < 18446744073709551616) ∧ Hid (Keeps no w w')

/-- an op's cells in their block -/
def opC (r : ROp) : Array Value := #[.int .i64 r.kind, .int .i64 r.part, .int .i64 r.n, .bool r.turn, .int .i64 r.mkd, .int .i64 r.mcl, .int .u64 (r.mreq : Nat), .int .u64 (r.mid : Nat), .slice r.v4 r.n4 r.c4, .slice r.v5 r.n5 r.c5, .slice r.v6 r.n6 r.c6, .slice r.v7 r.n7 r.c7]
def mz8 : Array Value := #[.int .i64 0, .int .i64 0, .int .u64 0, .int .u64 0, .slice none 0 0, .slice none 0 0, .slice none 0 0, .slice none 0 0]
set_option maxRecDepth 10000 in
set_option maxHeartbeats 2000000 in
theorem turned_plain (w : World) (k pt n : Int) (tn : Bool) (mk cl : Int) (mr mi : Nat) (v4 v5 v6 v7 : Option Addr) (n4 n5 n6 n7 c4 c5 c6 c7 : Nat) (lo : Option Addr) (ln lc : Nat) (hc : tn = false ∨ (tn = true ∧ ln = 0)) (hr : mr < 18446744073709551616) (hi : mi < 18446744073709551616) :
    Calls Tryz.prog 12 #[.agg #[.int .i64 k, .int .i64 pt, .int .i64 n, .bool tn, .int .i64 mk, .int .i64 cl, .int .u64 (mr : Nat), .int .u64 (mi : Nat), .slice v4 n4 c4, .slice v5 n5 c5, .slice v6 n6 c6, .slice v7 n7 c7], .slice lo ln lc] w (TurnTo w) := by
  obtain ⟨B, hB⟩ : ∃ B, B = w.heap.size := ⟨_, rfl⟩
  have HRI : Hid (mr < 18446744073709551616 ∧ mi < 18446744073709551616) := ⟨hr, hi⟩
  have H2 := two_blk w (.cells #[.int .i64 k, .int .i64 pt, .int .i64 n, .bool tn, .int .i64 mk, .int .i64 cl, .int .u64 (mr : Nat), .int .u64 (mi : Nat), .slice v4 n4 c4, .slice v5 n5 c5, .slice v6 n6 c6, .slice v7 n7 c7] 47) (.cells #[.int .i64 0, .int .i64 0, .int .u64 0, .int .u64 0, .slice none 0 0, .slice none 0 0, .slice none 0 0, .slice none 0 0] 45)
  have hk2 : Keeps no w ((w.alloc (.cells #[.int .i64 k, .int .i64 pt, .int .i64 n, .bool tn, .int .i64 mk, .int .i64 cl, .int .u64 (mr : Nat), .int .u64 (mi : Nat), .slice v4 n4 c4, .slice v5 n5 c5, .slice v6 n6 c6, .slice v7 n7 c7] 47)).alloc (.cells #[.int .i64 0, .int .i64 0, .int .u64 0, .int .u64 0, .slice none 0 0, .slice none 0 0, .slice none 0 0, .slice none 0 0] 45)) := ((Keeps.refl _ _).alloc _).alloc _
  have HH : Hid (B = w.heap.size) := hB
  rw [← hB] at H2
  clear hr hi
  unfold TurnTo
  go_enter Tryz.func12, Tryz.ntmps12
  go_upto_region 1 with fail
  rw [← hB]
  clear hB
  generalize (w.alloc (.cells #[.int .i64 k, .int .i64 pt, .int .i64 n, .bool tn, .int .i64 mk, .int .i64 cl, .int .u64 (mr : Nat), .int .u64 (mi : Nat), .slice v4 n4 c4, .slice v5 n5 c5, .slice v6 n6 c6, .slice v7 n7 c7] 47)).alloc (.cells #[.int .i64 0, .int .i64 0, .int .u64 0, .int .u64 0, .slice none 0 0, .slice none 0 0, .slice none 0 0, .slice none 0 0] 45) = U at H2 hk2 ⊢
  have HK : Hid (Keeps no w U) := hk2
  obtain ⟨hb1, hb2⟩ := H2
  have a1 := cell_of_blk hb1 1
  have a3 := cell_of_blk hb1 3
  have a4 := cell_of_blk hb1 4
  have a5 := cell_of_blk hb1 5
  have a6 := cell_of_blk hb1 6
  have a7 := cell_of_blk hb1 7
  have a8 := cell_of_blk hb1 8
  have a9 := cell_of_blk hb1 9
  have a10 := cell_of_blk hb1 10
  have a11 := cell_of_blk hb1 11
  simp only [List.getElem?_toArray, List.getElem?_cons_succ, List.getElem?_cons_zero] at a1 a3 a4 a5 a6 a7 a8 a9 a10 a11
  have d0 := cell_of_blk hb2 0
  have d1 := cell_of_blk hb2 1
  have d2 := cell_of_blk hb2 2
  have d3 := cell_of_blk hb2 3
  have d4 := cell_of_blk hb2 4
  have d5 := cell_of_blk hb2 5
  have d6 := cell_of_blk hb2 6
  have d7 := cell_of_blk hb2 7
  have g0 := frozen_of_blk hb2 0
  have g1 := frozen_of_blk hb2 1
  have g2 := frozen_of_blk hb2 2
  have g3 := frozen_of_blk hb2 3
  have g4 := frozen_of_blk hb2 4
  have g5 := frozen_of_blk hb2 5
  have g6 := frozen_of_blk hb2 6
  have g7 := frozen_of_blk hb2 7
  simp only [List.getElem?_toArray, List.getElem?_cons_succ, List.getElem?_cons_zero] at d0 d1 d2 d3 d4 d5 d6 d7
  have HE : Hid (∀ vs : List Value, vs.length = 8 → ∀ W, W = (U.setCells (B + 1) 0 vs).drew → W.heap[B + 1]? = some (.cells vs.toArray 45 (0, 0)) ∧ Keeps no w W) := by
    rintro vs hvs W rfl
    refine ⟨blk_whole hb2 _ hvs.symm, (keeps_setCells' _ _ HK.out (.inr ?_)).drew⟩
    have := HH.out; show _ ≤ _; omega
  clear hb1 hb2 hk2
  rcases hc with rfl | ⟨rfl, rfl⟩
  all_goals
    go_upto_region 2 with fail
    go_region
    all_goals
      go_wp2_with fail
      have hE := HE.out [.int .i64 mk, .int .i64 cl, .int .u64 (mr : Nat), .int .u64 (mi : Nat), .slice v4 n4 c4, .slice v5 n5 c5, .slice v6 n6 c6, .slice v7 n7 c7] rfl _ rfl
      (try simp only [Exit.inBlock, Exit.then])
      refine bodyPost_ret (results_rowT rfl _ _ (B + 1) _ rfl (run_loadVar_row _ _ _ _ _ _ _ hE.1 Tryz.underlying45 rfl (msg_size _ _ _ _ _ _ _ _))) rfl ?_
      exact ⟨pt, mk, cl, mr, mi, v4, n4, c4, v5, n5, c5, v6, n6, c6, v7, n7, c7, rfl, HRI, hE.2⟩
theorem four_blk (w : World) (a b c d : Obj) : ((((w.alloc a).alloc b).alloc c).alloc d).heap[w.heap.size + 1]? = some b ∧ ((((w.alloc a).alloc b).alloc c).alloc d).heap[w.heap.size + 2]? = some c ∧ ((((w.alloc a).alloc b).alloc c).alloc d).heap[w.heap.size + 3]? = some d := by
  have h := two_blk w a b
  have h2 := two_blk ((w.alloc a).alloc b) c d
  have e : ((w.alloc a).alloc b).heap.size = w.heap.size + 2 := by simp
  rw [e] at h2
  exact ⟨blk_alloc (blk_alloc h.2 _) _, h2.1, h2.2⟩
set_option maxRecDepth 10000 in
set_option maxHeartbeats 2000000 in
theorem turned_last (w : World) (k pt n : Int) (mk cl : Int) (mr mi : Nat) (v4 v5 v6 v7 : Option Addr) (n4 n5 n6 n7 c4 c5 c6 c7 : Nat) (lo : Option Addr) (ln lc : Nat) (lrs : List RQ) (lqs : List Qn) (hn : ln = lqs.length) (hp : 0 < ln) (hf : FitQs lqs) (hs : Qs w lo lc lrs lqs) :
    Calls Tryz.prog 12 #[.agg #[.int .i64 k, .int .i64 pt, .int .i64 n, .bool true, .int .i64 mk, .int .i64 cl, .int .u64 (mr : Nat), .int .u64 (mi : Nat), .slice v4 n4 c4, .slice v5 n5 c5, .slice v6 n6 c6, .slice v7 n7 c7], .slice lo ln lc] w (TurnTo w) := by
  obtain ⟨J, hJ, hJl⟩ : ∃ J : Nat, (n % 65536).tmod (ln : Int) = (J : Int) ∧ J < ln := by
    refine ⟨((n % 65536).toNat) % ln, ?_, Nat.mod_lt _ hp⟩
    have e : n % 65536 = ((n % 65536).toNat : Int) := by omega
    rw [e, Int.toNat_natCast, ← Int.ofNat_tmod]
  have hand : bits .and .i64 n 65535 = n % 65536 := i64_and16 n
  have hln0 : ¬ (ln : Int) = 0 := by omega
  have hln1 : ((ln : Int) == 0) = false := by simp; omega
  have hl64 : (ln : Int) ≤ 64 := by have := hf.1; omega
  have hJb : (J : Int) < ln := by omega
  have hmod0 : 0 ≤ n % 65536 := by omega
  have hmod1 : n % 65536 < 65536 := by omega
  obtain ⟨b1, off1, x, ho1, A1, q1⟩ := hs.at (j := J) (by omega)
  subst ho1
  have fx := hf.at (j := J) (by omega)
  have HRI : Hid (x.req < 18446744073709551616 ∧ x.id < 18446744073709551616) := ⟨by rw [q1.req]; exact fx.req, by rw [q1.id]; exact fx.id⟩
  have HPX : (0 : Int) ≤ x.part ∧ x.part ≤ 64 := by rw [q1.part]; exact fx.part
  obtain ⟨x0, x1, x2, x3, x4, xpo, xpn, xpc, xko, xkn, xkc, xwo, xwc, xvo, xvc⟩ := x
  obtain ⟨s0, s1, s2, s3, s4, s5, s6, s7, s8⟩ := A1
  simp only at s0 s1 s2 s3 s4 s5 s6 s7 s8 HRI HPX
  obtain ⟨hx0, hx1⟩ := HPX
  clear hs hf q1 fx hn
  generalize n % 65536 = Z at *
  have hlt := World.block_lt_of_cell? w _ s0
  simp only at hlt
  obtain ⟨B, hB⟩ : ∃ B, B = w.heap.size := ⟨_, rfl⟩
  have HH : Hid (B = w.heap.size) := hB
  have HE : Hid (∀ K : Int, ∀ U, U = ((((w.alloc (.cells #[.int .i64 k, .int .i64 pt, .int .i64 n, .bool true, .int .i64 mk, .int .i64 cl, .int .u64 (mr : Nat), .int .u64 (mi : Nat), .slice v4 n4 c4, .slice v5 n5 c5, .slice v6 n6 c6, .slice v7 n7 c7] 47)).alloc (.cells #[.int .i64 0, .int .i64 0, .int .u64 0, .int .u64 0, .slice none 0 0, .slice none 0 0, .slice none 0 0, .slice none 0 0] 45)).alloc (.cells #[.int .i64 x0, .int .i64 x1, .int .i64 x2, .int .u64 (x3 : Nat), .int .u64 (x4 : Nat), .slice xpo xpn xpc, .slice xko xkn xkc, .slice xwo 0 xwc, .slice xvo 0 xvc] 63)).alloc (.cells #[.int .i64 K, .int .i64 cl, .int .u64 (x3 : Nat), .int .u64 (x4 : Nat), .slice v4 n4 c4, .slice v5 n5 c5, .slice v6 n6 c6, .slice v7 n7 c7] 45)) → Keeps no w U ∧ U.heap[B + 1]? = some (.cells #[.int .i64 0, .int .i64 0, .int .u64 0, .int .u64 0, .slice none 0 0, .slice none 0 0, .slice none 0 0, .slice none 0 0] 45 (0, 0)) ∧ U.heap[B + 2]? = some (.cells #[.int .i64 x0, .int .i64 x1, .int .i64 x2, .int .u64 (x3 : Nat), .int .u64 (x4 : Nat), .slice xpo xpn xpc, .slice xko xkn xkc, .slice xwo 0 xwc, .slice xvo 0 xvc] 63 (0, 0)) ∧ U.heap[B + 3]? = some (.cells #[.int .i64 K, .int .i64 cl, .int .u64 (x3 : Nat), .int .u64 (x4 : Nat), .slice v4 n4 c4, .slice v5 n5 c5, .slice v6 n6 c6, .slice v7 n7 c7] 45 (0, 0))) := by
    rintro K U rfl
    have h4 := four_blk w (.cells #[.int .i64 k, .int .i64 pt, .int .i64 n, .bool true, .int .i64 mk, .int .i64 cl, .int .u64 (mr : Nat), .int .u64 (mi : Nat), .slice v4 n4 c4, .slice v5 n5 c5, .slice v6 n6 c6, .slice v7 n7 c7] 47) (.cells #[.int .i64 0, .int .i64 0, .int .u64 0, .int .u64 0, .slice none 0 0, .slice none 0 0, .slice none 0 0, .slice none 0 0] 45) (.cells #[.int .i64 x0, .int .i64 x1, .int .i64 x2, .int .u64 (x3 : Nat), .int .u64 (x4 : Nat), .slice xpo xpn xpc, .slice xko xkn xkc, .slice xwo 0 xwc, .slice xvo 0 xvc] 63) (.cells #[.int .i64 K, .int .i64 cl, .int .u64 (x3 : Nat), .int .u64 (x4 : Nat), .slice v4 n4 c4, .slice v5 n5 c5, .slice v6 n6 c6, .slice v7 n7 c7] 45)
    rw [← hB] at h4
    exact ⟨((((Keeps.refl _ _).alloc _).alloc _).alloc _).alloc _, h4.1, h4.2.1, h4.2.2⟩
  have HF : Hid (∀ U, U.heap[B + 1]? = some (.cells #[.int .i64 0, .int .i64 0, .int .u64 0, .int .u64 0, .slice none 0 0, .slice none 0 0, .slice none 0 0, .slice none 0 0] 45 (0, 0)) → Keeps no w U → ∀ vs : List Value, vs.length = 8 → ∀ W, W = (U.setCells (B + 1) 0 vs).drew → W.heap[B + 1]? = some (.cells vs.toArray 45 (0, 0)) ∧ Keeps no w W) := by
    rintro U hU kU vs hvs W rfl
    refine ⟨blk_whole hU _ hvs.symm, (keeps_setCells' _ _ kU (.inr ?_)).drew⟩
    have := HH.out; show _ ≤ _; omega
  unfold TurnTo
  by_cases h2 : x1 = 2
  · subst h2
    go_enter Tryz.func12, Tryz.ntmps12
    go_upto_region 10 with fail
    have hU := HE.out 6 _ rfl
    rw [← hB]
    generalize ((((w.alloc (.cells #[.int .i64 k, .int .i64 pt, .int .i64 n, .bool true, .int .i64 mk, .int .i64 cl, .int .u64 (mr : Nat), .int .u64 (mi : Nat), .slice v4 n4 c4, .slice v5 n5 c5, .slice v6 n6 c6, .slice v7 n7 c7] 47)).alloc (.cells #[.int .i64 0, .int .i64 0, .int .u64 0, .int .u64 0, .slice none 0 0, .slice none 0 0, .slice none 0 0, .slice none 0 0] 45)).alloc (.cells #[.int .i64 x0, .int .i64 2, .int .i64 x2, .int .u64 (x3 : Nat), .int .u64 (x4 : Nat), .slice xpo xpn xpc, .slice xko xkn xkc, .slice xwo 0 xwc, .slice xvo 0 xvc] 63)).alloc (.cells #[.int .i64 6, .int .i64 cl, .int .u64 (x3 : Nat), .int .u64 (x4 : Nat), .slice v4 n4 c4, .slice v5 n5 c5, .slice v6 n6 c6, .slice v7 n7 c7] 45)) = U at hU ⊢
    obtain ⟨hk2, hb2, hb3, hb4⟩ := hU
    have HK : Hid (Keeps no w U) := hk2
    have HM : Hid (U.heap[B + 1]? = some (.cells #[.int .i64 0, .int .i64 0, .int .u64 0, .int .u64 0, .slice none 0 0, .slice none 0 0, .slice none 0 0, .slice none 0 0] 45 (0, 0))) := hb2
    have p0 := cell_of_blk hb3 0
    have a0 := cell_of_blk hb4 0
    have a1 := cell_of_blk hb4 1
    have a2 := cell_of_blk hb4 2
    have a3 := cell_of_blk hb4 3
    have a4 := cell_of_blk hb4 4
    have a5 := cell_of_blk hb4 5
    have a6 := cell_of_blk hb4 6
    have a7 := cell_of_blk hb4 7
    simp only [List.getElem?_toArray, List.getElem?_cons_succ, List.getElem?_cons_zero] at p0 a0 a1 a2 a3 a4 a5 a6 a7
    have d0 := cell_of_blk hb2 0
    have d1 := cell_of_blk hb2 1
    have d2 := cell_of_blk hb2 2
    have d3 := cell_of_blk hb2 3
    have d4 := cell_of_blk hb2 4
    have d5 := cell_of_blk hb2 5
    have d6 := cell_of_blk hb2 6
    have d7 := cell_of_blk hb2 7
    have g0 := frozen_of_blk hb2 0
    have g1 := frozen_of_blk hb2 1
    have g2 := frozen_of_blk hb2 2
    have g3 := frozen_of_blk hb2 3
    have g4 := frozen_of_blk hb2 4
    have g5 := frozen_of_blk hb2 5
    have g6 := frozen_of_blk hb2 6
    have g7 := frozen_of_blk hb2 7
    simp only [List.getElem?_toArray, List.getElem?_cons_succ, List.getElem?_cons_zero] at d0 d1 d2 d3 d4 d5 d6 d7
    clear hb2 hb3 hb4 hk2 s0 s1 s2 s3 s4 s5 s6 s7 s8 hB hlt HE
    go_region
    all_goals
      go_wp2_with fail
      have hE := HF.out U HM.out HK.out [.int .i64 6, .int .i64 cl, .int .u64 (x3 : Nat), .int .u64 (x4 : Nat), .slice v4 n4 c4, .slice v5 n5 c5, .slice v6 n6 c6, .slice v7 n7 c7] rfl _ rfl
      (try simp only [Exit.inBlock, Exit.then])
      refine bodyPost_ret (results_rowT rfl _ _ (B + 1) _ rfl (run_loadVar_row _ _ _ _ _ _ _ hE.1 Tryz.underlying45 rfl (msg_size _ _ _ _ _ _ _ _))) rfl ?_
      exact ⟨x0, 6, cl, x3, x4, v4, n4, c4, v5, n5, c5, v6, n6, c6, v7, n7, c7, rfl, HRI, hE.2⟩
  · have h2b : (x1 == 2) = false := by simpa using h2
    go_enter Tryz.func12, Tryz.ntmps12
    go_upto_region 10 with fail
    have hU := HE.out 5 _ rfl
    rw [← hB]
    generalize ((((w.alloc (.cells #[.int .i64 k, .int .i64 pt, .int .i64 n, .bool true, .int .i64 mk, .int .i64 cl, .int .u64 (mr : Nat), .int .u64 (mi : Nat), .slice v4 n4 c4, .slice v5 n5 c5, .slice v6 n6 c6, .slice v7 n7 c7] 47)).alloc (.cells #[.int .i64 0, .int .i64 0, .int .u64 0, .int .u64 0, .slice none 0 0, .slice none 0 0, .slice none 0 0, .slice none 0 0] 45)).alloc (.cells #[.int .i64 x0, .int .i64 x1, .int .i64 x2, .int .u64 (x3 : Nat), .int .u64 (x4 : Nat), .slice xpo xpn xpc, .slice xko xkn xkc, .slice xwo 0 xwc, .slice xvo 0 xvc] 63)).alloc (.cells #[.int .i64 5, .int .i64 cl, .int .u64 (x3 : Nat), .int .u64 (x4 : Nat), .slice v4 n4 c4, .slice v5 n5 c5, .slice v6 n6 c6, .slice v7 n7 c7] 45)) = U at hU ⊢
    obtain ⟨hk2, hb2, hb3, hb4⟩ := hU
    have HK : Hid (Keeps no w U) := hk2
    have HM : Hid (U.heap[B + 1]? = some (.cells #[.int .i64 0, .int .i64 0, .int .u64 0, .int .u64 0, .slice none 0 0, .slice none 0 0, .slice none 0 0, .slice none 0 0] 45 (0, 0))) := hb2
    have p0 := cell_of_blk hb3 0
    have a0 := cell_of_blk hb4 0
    have a1 := cell_of_blk hb4 1
    have a2 := cell_of_blk hb4 2
    have a3 := cell_of_blk hb4 3
    have a4 := cell_of_blk hb4 4
    have a5 := cell_of_blk hb4 5
    have a6 := cell_of_blk hb4 6
    have a7 := cell_of_blk hb4 7
    simp only [List.getElem?_toArray, List.getElem?_cons_succ, List.getElem?_cons_zero] at p0 a0 a1 a2 a3 a4 a5 a6 a7
    have d0 := cell_of_blk hb2 0
    have d1 := cell_of_blk hb2 1
    have d2 := cell_of_blk hb2 2
    have d3 := cell_of_blk hb2 3
    have d4 := cell_of_blk hb2 4
    have d5 := cell_of_blk hb2 5
    have d6 := cell_of_blk hb2 6
    have d7 := cell_of_blk hb2 7
    have g0 := frozen_of_blk hb2 0
    have g1 := frozen_of_blk hb2 1
    have g2 := frozen_of_blk hb2 2
    have g3 := frozen_of_blk hb2 3
    have g4 := frozen_of_blk hb2 4
    have g5 := frozen_of_blk hb2 5
    have g6 := frozen_of_blk hb2 6
    have g7 := frozen_of_blk hb2 7
    simp only [List.getElem?_toArray, List.getElem?_cons_succ, List.getElem?_cons_zero] at d0 d1 d2 d3 d4 d5 d6 d7
    clear hb2 hb3 hb4 hk2 s0 s1 s2 s3 s4 s5 s6 s7 s8 hB hlt HE
    go_region
    all_goals
      go_wp2_with fail
      have hE := HF.out U HM.out HK.out [.int .i64 5, .int .i64 cl, .int .u64 (x3 : Nat), .int .u64 (x4 : Nat), .slice v4 n4 c4, .slice v5 n5 c5, .slice v6 n6 c6, .slice v7 n7 c7] rfl _ rfl
      (try simp only [Exit.inBlock, Exit.then])
      refine bodyPost_ret (results_rowT rfl _ _ (B + 1) _ rfl (run_loadVar_row _ _ _ _ _ _ _ hE.1 Tryz.underlying45 rfl (msg_size _ _ _ _ _ _ _ _))) rfl ?_
      exact ⟨x0, 5, cl, x3, x4, v4, n4, c4, v5, n5, c5, v6, n6, c6, v7, n7, c7, rfl, HRI, hE.2⟩
theorem turned_any (w : World) (k pt n : Int) (tn : Bool) (mk cl : Int) (mr mi : Nat) (v4 v5 v6 v7 : Option Addr) (n4 n5 n6 n7 c4 c5 c6 c7 : Nat) (lo : Option Addr) (ln lc : Nat) (lrs : List RQ) (lqs : List Qn) (hr : mr < 18446744073709551616) (hi : mi < 18446744073709551616) (hn : ln = lqs.length) (hf : FitQs lqs) (hs : Qs w lo lc lrs lqs) :
    Calls Tryz.prog 12 #[.agg #[.int .i64 k, .int .i64 pt, .int .i64 n, .bool tn, .int .i64 mk, .int .i64 cl, .int .u64 (mr : Nat), .int .u64 (mi : Nat), .slice v4 n4 c4, .slice v5 n5 c5, .slice v6 n6 c6, .slice v7 n7 c7], .slice lo ln lc] w (TurnTo w) := by
  cases tn with
  | false => exact turned_plain w k pt n false mk cl mr mi v4 v5 v6 v7 n4 n5 n6 n7 c4 c5 c6 c7 lo ln lc (.inl rfl) hr hi
  | true =>
    by_cases h : ln = 0
    · exact turned_plain w k pt n true mk cl mr mi v4 v5 v6 v7 n4 n5 n6 n7 c4 c5 c6 c7 lo ln lc (.inr ⟨rfl, h⟩) hr hi
    · exact turned_last w k pt n mk cl mr mi v4 v5 v6 v7 n4 n5 n6 n7 c4 c5 c6 c7 lo ln lc lrs lqs hn (by omega) hf hs
end Go.Proofs.YtghnhkhhpeoheaaGreat
