/- The document's read and Decode. -/
import Derived.Test.YtjklpcamlppegaaGreatD2prep
import Derived.Test.YtjklpcamlppegaaGreatD2x
import Derived.Test.YtjklpcamlppegaaGreatD2vers
import Derived.Laws.Bits128
namespace Go.Proofs.YtjklpcamlppegaaGreat
open Go.RowKit Go.Sort Orl Pk
set_option linter.unusedVariables false
set_option linter.unusedSimpArgs false

theorem refRead_any (w0 : World) (ob : Option Addr) (nb cb : Nat) (L : List Nat) (hn : nb = L.length) (hlid : L.length ≤ 140737488355328) (hs : BSl w0 ob cb L) :
    Calls Tryz.prog 44 #[.slice ob nb cb] w0 (ReadD w0 L) := by
  by_cases h1 : (rnum 1 (L, 0)).1 = 1
  · exact readD_prep w0 ob nb cb L hn hlid hs h1
  by_cases h3 : (rnum 1 (L, 0)).1 = 3
  · exact readD_latest w0 ob nb cb L hn hlid hs h3
  by_cases h4 : (rnum 1 (L, 0)).1 = 4
  · exact readD_byid w0 ob nb cb L hn hlid hs h4
  by_cases h7 : (rnum 1 (L, 0)).1 = 7
  · exact readD_vers w0 ob nb cb L hn hlid hs h7
  exact readD_else w0 ob nb cb L hn hlid hs ⟨h1, h3, h4, h7⟩

/-- what the document's Decode tells -/
def DecD (w : World) (D : Msg × Nat) (e : Ending) (w' : World) : Prop :=
  ∃ (k cl : Int) (q i : Nat) (op : Option Addr) (np cp : Nat) (ok : Option Addr) (nk ck : Nat) (ow : Option Addr) (nw cw : Nat) (ov : Option Addr) (nv cv : Nat) (rs : List RV),
    e = .returned (.tuple #[.agg #[.int .i64 k, .int .i64 cl, .int .u64 (q : Nat), .int .u64 (i : Nat), .slice op np cp, .slice ok nk ck, .slice ow nw cw, .slice ov nv cv], .int .i64 (D.2 : Nat)]) ∧
    Hid (IsM w' k cl q i op np cp ok nk ck ow nw cw ov nv cv rs D.1) ∧ Keeps no w w'
theorem decD_err {w w' : World} (E : Nat) (D : Msg × Nat) (hD : D = (m0, E)) (hk : Keeps no w w') :
    DecD w D (.returned (.tuple #[.agg #[.int .i64 0, .int .i64 0, .int .u64 0, .int .u64 0, .slice none 0 0, .slice none 0 0, .slice none 0 0, .slice none 0 0], .int .i64 (E : Nat)])) w' := by
  subst hD
  exact ⟨0, 0, 0, 0, none, 0, 0, none, 0, 0, none, 0, 0, none, 0, 0, [], rfl, isM0 _, hk⟩
theorem wraps_i64 (n : Int) (h₀ : 0 ≤ n) (h₁ : n < 2 ^ 40) : IntKind.i64.wrap n = n := by rw [IntKind.wrap_i64]; omega
theorem i64_or24 {x y : Int} (hx₀ : 0 ≤ x) (hx : x % 16777216 = 0) (hx₁ : x < 4294967296) (h₀ : 0 ≤ y) (h₁ : y < 16777216) : bits .or .i64 x y = x + y :=
  bits_join .i64 40 (by decide) wraps_i64 24 x y hx₀ (by simpa using hx) (by omega) h₀ (by omega) (by omega)
theorem i64_or16 {x y : Int} (hx₀ : 0 ≤ x) (hx : x % 65536 = 0) (hx₁ : x < 4294967296) (h₀ : 0 ≤ y) (h₁ : y < 65536) : bits .or .i64 x y = x + y :=
  bits_join .i64 40 (by decide) wraps_i64 16 x y hx₀ (by simpa using hx) (by omega) h₀ (by omega) (by omega)
theorem i64_or8 {x y : Int} (hx₀ : 0 ≤ x) (hx : x % 256 = 0) (hx₁ : x < 4294967296) (h₀ : 0 ≤ y) (h₁ : y < 256) : bits .or .i64 x y = x + y :=
  bits_join .i64 40 (by decide) wraps_i64 8 x y hx₀ (by simpa using hx) (by omega) h₀ (by omega) (by omega)
theorem or4 (b0 b1 b2 b3 : Nat) (h0 : b0 < 256) (h1 : b1 < 256) (h2 : b2 < 256) (h3 : b3 < 256) :
    bits .or .i64 (b0 * 16777216 : Int) (b1 * 65536) = (b0 * 16777216 + b1 * 65536 : Int) ∧ bits .or .i64 (b0 * 16777216 + b1 * 65536 : Int) (b2 * 256) = (b0 * 16777216 + b1 * 65536 + b2 * 256 : Int) ∧
    bits .or .i64 (b0 * 16777216 + b1 * 65536 + b2 * 256 : Int) b3 = (b0 * 16777216 + b1 * 65536 + b2 * 256 + b3 : Int) :=
  ⟨i64_or24 (by omega) (by omega) (by omega) (by omega) (by omega), i64_or16 (by omega) (by omega) (by omega) (by omega) (by omega), i64_or8 (by omega) (by omega) (by omega) (by omega) (by omega)⟩
theorem val4 (b0 b1 b2 b3 : Nat) (l : List Nat) : Pk.val ((b0 :: b1 :: b2 :: b3 :: l).take 4) = b0 * 16777216 + b1 * 65536 + b2 * 256 + b3 := by
  simp [Pk.val]; omega

set_option maxRecDepth 10000 in
set_option maxHeartbeats 2000000 in
theorem refDecode_any (w : World) (o : Option Addr) (n c : Nat) (bs : List Nat) (hn : n = bs.length) (hlid : bs.length ≤ 140737488355328) (hs : BSl w o c bs) :
    Calls Tryz.prog 20 #[.slice o n c] w (DecD w (dec bs)) := by
  obtain ⟨D, hD⟩ : ∃ D, D = dec bs := ⟨_, rfl⟩
  rw [← hD]
  have HD : Hid (D = dec bs) := hD
  clear hD
  have HN : Hid (n = bs.length) := hn
  have hnl : n ≤ 140737488355328 := by omega
  clear hn
  have k0 : Keeps no w (w.alloc (.cells #[.int .i64 0, .int .i64 0, .int .u64 0, .int .u64 0, .slice none 0 0, .slice none 0 0, .slice none 0 0, .slice none 0 0] 29)) := (Keeps.refl no w).alloc _
  by_cases h4 : n < 4
  · have h4' : (n : Int) < 4 := by omega
    go_enter Tryz.func20, Tryz.ntmps20
    go_wp2_with fail
    (try simp only [Exit.inBlock, Exit.then])
    refine bodyPost_ret (results_row2 rfl _ _ w.heap.size _ rfl (loadM (blk_new w _))) rfl ?_
    exact decD_err 4 D (by rw [HD.out]; exact dec_short (by have := HN.out; omega)) k0
  · obtain ⟨hby, _, he | ⟨gb, off, rfl, hcell⟩⟩ := hs.row
    · exfalso; rw [he] at HN; have := HN.out; simp at this; omega
    have h4' : ¬ (n : Int) < 4 := by omega
    have hb4 : 4 ≤ bs.length := by have := HN.out; omega
    obtain ⟨A2, d2, hcut2, hsl2, _⟩ := cut_l w _ c bs n 4 4 rfl HN.out (by omega) hs
    have HS2 : Hid (BSl w A2 d2 (bs.drop 4)) := hsl2
    have HDL : Hid (n - 4 = (bs.drop 4).length) := by show _ = _; rw [List.length_drop, HN.out]
    have key : ∃ b0 b1 b2 b3 : Nat, b0 < 256 ∧ b1 < 256 ∧ b2 < 256 ∧ b3 < 256 ∧ Pk.val (bs.take 4) = b0 * 16777216 + b1 * 65536 + b2 * 256 + b3 ∧ w.cell? ⟨gb, off + 0, none⟩ = some (.int .u8 (b0 : Nat)) ∧ w.cell? ⟨gb, off + 1, none⟩ = some (.int .u8 (b1 : Nat)) ∧ w.cell? ⟨gb, off + 2, none⟩ = some (.int .u8 (b2 : Nat)) ∧ w.cell? ⟨gb, off + 3, none⟩ = some (.int .u8 (b3 : Nat)) := by
      match bs, hb4, hby, hcell with
      | b0 :: b1 :: b2 :: b3 :: l, _, hby, hcell =>
        exact ⟨b0, b1, b2, b3, hby _ (by simp), hby _ (by simp), hby _ (by simp), hby _ (by simp), val4 _ _ _ _ _, hcell 0 (by simp), hcell 1 (by simp), hcell 2 (by simp), hcell 3 (by simp)⟩
    obtain ⟨b0, b1, b2, b3, l0, l1, l2, l3, hval, c0, c1, c2, c3⟩ := key
    have hgb : gb < w.heap.size := World.block_lt_of_cell? w _ c0
    obtain ⟨V, hV⟩ : ∃ V, V = Pk.val (bs.take 4) := ⟨_, rfl⟩
    rw [← hV] at hval
    have HV : Hid (V = Pk.val (bs.take 4)) := hV
    have hsum : (b0 : Int) * 16777216 + b1 * 65536 + b2 * 256 + b3 = V := by omega
    obtain ⟨r1, r2, r3⟩ := or4 b0 b1 b2 b3 l0 l1 l2 l3
    rw [hsum] at r3
    have H4B : Hid (4 ≤ bs.length) := hb4
    rw [Nat.add_zero] at c0
    have c0' := k0.cellN c0
    have c1' := k0.cellN c1
    have c2' := k0.cellN c2
    have c3' := k0.cellN c3
    clear hV hval hby hcell hs hsl2 hb4 hsum
    by_cases hlong : 1048576 < V
    · have hl1 : (1048576 : Int) < V := by omega
      go_enter Tryz.func20, Tryz.ntmps20
      go_wp2_with fail
      go_quiet (fail)
      have HK1 : Hid (Keeps no w ((w.alloc (.cells #[.int .i64 0, .int .i64 0, .int .u64 0, .int .u64 0, .slice none 0 0, .slice none 0 0, .slice none 0 0, .slice none 0 0] 29)).drewN nq)) := k0.drewN nq
      have hb1 : ((w.alloc (.cells #[.int .i64 0, .int .i64 0, .int .u64 0, .int .u64 0, .slice none 0 0, .slice none 0 0, .slice none 0 0, .slice none 0 0] 29)).drewN nq).heap[w.heap.size]? = some (.cells #[.int .i64 0, .int .i64 0, .int .u64 0, .int .u64 0, .slice none 0 0, .slice none 0 0, .slice none 0 0, .slice none 0 0] 29 (0, 0)) := blk_new w _
      generalize (w.alloc (.cells #[.int .i64 0, .int .i64 0, .int .u64 0, .int .u64 0, .slice none 0 0, .slice none 0 0, .slice none 0 0, .slice none 0 0] 29)).drewN nq = w1 at HK1 hb1 ⊢
      have HB1 : Hid (w1.heap[w.heap.size]? = some (.cells #[.int .i64 0, .int .i64 0, .int .u64 0, .int .u64 0, .slice none 0 0, .slice none 0 0, .slice none 0 0, .slice none 0 0] 29 (0, 0))) := hb1
      obtain ⟨B, hB⟩ : ∃ B, B = w.heap.size := ⟨_, rfl⟩
      have HB : Hid (B = w.heap.size) := hB
      rw [← hB] at hb1
      rw [← hB]
      clear hB c0' c1' c2' c3'
      obtain ⟨x0, x1, x2, x3, x4, x5, x6, x7⟩ := cells8 hb1
      have f0 := frozen_of_blk hb1 0
      have f1 := frozen_of_blk hb1 1
      have f2 := frozen_of_blk hb1 2
      have f3 := frozen_of_blk hb1 3
      have f4 := frozen_of_blk hb1 4
      have f5 := frozen_of_blk hb1 5
      have f6 := frozen_of_blk hb1 6
      have f7 := frozen_of_blk hb1 7
      clear hb1
      go_wp2_with fail
      (try simp only [Exit.inBlock, Exit.then])
      have hs8 := set8 HB1.out (.int .i64 0) (.int .i64 0) (.int .u64 0) (.int .u64 0) (.slice none 0 0) (.slice none 0 0) (.slice none 0 0) (.slice none 0 0)
      unfold set8w at hs8
      rw [HB.out]
      refine bodyPost_ret (results_row2 rfl _ _ w.heap.size _ rfl (loadM hs8.1)) rfl ?_
      exact decD_err 3 D (by rw [HD.out]; exact dec_long H4B.out (by rw [← HV.out]; exact hlong)) (HK1.out.then hs8.2 (fun i hi => .inr (by unfold eqA at hi; omega)))
    · have hl1 : ¬ (1048576 : Int) < V := by omega
      have HV2 : Hid (V ≤ 1048576) := (by show _ ≤ _; omega)
      generalize hnn : n - 4 = n4 at hcut2 HDL
      have HNN : Hid (n = n4 + 4) := (by show _ = _; omega)
      have hn4 : (n : Int) - 4 = n4 := by omega
      have hn4b : n4 ≤ 140737488355328 := by omega
      clear hnn
      rcases Nat.lt_trichotomy n4 V with hlt | heq | hgt
      · have g1 : (n4 : Int) < V := by omega
        go_enter Tryz.func20, Tryz.ntmps20
        go_wp2_with fail
        go_quiet (fail)
        have HK1 : Hid (Keeps no w ((w.alloc (.cells #[.int .i64 0, .int .i64 0, .int .u64 0, .int .u64 0, .slice none 0 0, .slice none 0 0, .slice none 0 0, .slice none 0 0] 29)).drewN nq)) := k0.drewN nq
        have hb1 : ((w.alloc (.cells #[.int .i64 0, .int .i64 0, .int .u64 0, .int .u64 0, .slice none 0 0, .slice none 0 0, .slice none 0 0, .slice none 0 0] 29)).drewN nq).heap[w.heap.size]? = some (.cells #[.int .i64 0, .int .i64 0, .int .u64 0, .int .u64 0, .slice none 0 0, .slice none 0 0, .slice none 0 0, .slice none 0 0] 29 (0, 0)) := blk_new w _
        generalize (w.alloc (.cells #[.int .i64 0, .int .i64 0, .int .u64 0, .int .u64 0, .slice none 0 0, .slice none 0 0, .slice none 0 0, .slice none 0 0] 29)).drewN nq = w1 at HK1 hb1 ⊢
        have HB1 : Hid (w1.heap[w.heap.size]? = some (.cells #[.int .i64 0, .int .i64 0, .int .u64 0, .int .u64 0, .slice none 0 0, .slice none 0 0, .slice none 0 0, .slice none 0 0] 29 (0, 0))) := hb1
        obtain ⟨B, hB⟩ : ∃ B, B = w.heap.size := ⟨_, rfl⟩
        have HB : Hid (B = w.heap.size) := hB
        rw [← hB] at hb1
        rw [← hB]
        clear hB c0' c1' c2' c3'
        obtain ⟨x0, x1, x2, x3, x4, x5, x6, x7⟩ := cells8 hb1
        have f0 := frozen_of_blk hb1 0
        have f1 := frozen_of_blk hb1 1
        have f2 := frozen_of_blk hb1 2
        have f3 := frozen_of_blk hb1 3
        have f4 := frozen_of_blk hb1 4
        have f5 := frozen_of_blk hb1 5
        have f6 := frozen_of_blk hb1 6
        have f7 := frozen_of_blk hb1 7
        clear hb1
        go_wp2_with fail
        (try simp only [Exit.inBlock, Exit.then])
        have hs8 := set8 HB1.out (.int .i64 0) (.int .i64 0) (.int .u64 0) (.int .u64 0) (.slice none 0 0) (.slice none 0 0) (.slice none 0 0) (.slice none 0 0)
        unfold set8w at hs8
        rw [HB.out]
        refine bodyPost_ret (results_row2 rfl _ _ w.heap.size _ rfl (loadM hs8.1)) rfl ?_
        exact decD_err 4 D (by rw [HD.out]; exact dec_less H4B.out (by rw [← HV.out]; exact HV2.out) (by rw [← HV.out]; have := HNN.out; have := HN.out; omega)) (HK1.out.then hs8.2 (fun i hi => .inr (by unfold eqA at hi; omega)))
      · have g1 : ¬ (n4 : Int) < V := by omega
        have g2 : ¬ (V : Int) < n4 := by omega
        have HEV : Hid (V = bs.length - 4) := by show _ = _; have h1 := HNN.out; have h2 := HN.out; clear r1 r2 r3; omega
        clear heq
        have HDE : Hid (dec bs = if rok (bs.drop 4) then ((rmsg (bs.drop 4)).1, 0) else (m0, 2)) := dec_just H4B.out (by rw [← HV.out]; exact HV2.out) (by rw [← HV.out]; exact HEV.out)
        go_enter Tryz.func20, Tryz.ntmps20
        go_wp2_with fail
        go_quiet (fail)
        have HK1 : Hid (Keeps no w ((w.alloc (.cells #[.int .i64 0, .int .i64 0, .int .u64 0, .int .u64 0, .slice none 0 0, .slice none 0 0, .slice none 0 0, .slice none 0 0] 29)).drewN nq)) := k0.drewN nq
        have hb1 : ((w.alloc (.cells #[.int .i64 0, .int .i64 0, .int .u64 0, .int .u64 0, .slice none 0 0, .slice none 0 0, .slice none 0 0, .slice none 0 0] 29)).drewN nq).heap[w.heap.size]? = some (.cells #[.int .i64 0, .int .i64 0, .int .u64 0, .int .u64 0, .slice none 0 0, .slice none 0 0, .slice none 0 0, .slice none 0 0] 29 (0, 0)) := blk_new w _
        generalize (w.alloc (.cells #[.int .i64 0, .int .i64 0, .int .u64 0, .int .u64 0, .slice none 0 0, .slice none 0 0, .slice none 0 0, .slice none 0 0] 29)).drewN nq = w1 at HK1 hb1 ⊢
        have HB1 : Hid (w1.heap[w.heap.size]? = some (.cells #[.int .i64 0, .int .i64 0, .int .u64 0, .int .u64 0, .slice none 0 0, .slice none 0 0, .slice none 0 0, .slice none 0 0] 29 (0, 0))) := hb1
        obtain ⟨B, hB⟩ : ∃ B, B = w.heap.size := ⟨_, rfl⟩
        have HB : Hid (B = w.heap.size) := hB
        rw [← hB] at hb1
        rw [← hB]
        clear hB c0' c1' c2' c3'
        obtain ⟨L, hL⟩ : ∃ L, L = bs.drop 4 := ⟨_, rfl⟩
        rw [← hL] at HDE HDL HS2
        have hLl : L.length ≤ 140737488355328 := by have := HDL.out; omega
        clear hL
        go_wp2_with fail
        refine (refRead_any w1 A2 _ d2 L HDL.out hLl (HS2.out.keeps HK1.out (fun _ _ h => h))).mono ?_
        rintro e w2 ⟨k, cl, q, i, op, np, cp, ok, nk, ck, ow, nw, cw, ov, nv, cv, rs, rfl, HM, ⟨M, hMl, hFar⟩, hk2⟩
        have HK2 : Hid (Keeps no w w2) := HK1.out.trans hk2
        have HB2 : Hid (w2.heap[w.heap.size]? = some (.cells #[.int .i64 0, .int .i64 0, .int .u64 0, .int .u64 0, .slice none 0 0, .slice none 0 0, .slice none 0 0, .slice none 0 0] 29 (0, 0))) := hk2.at HB1.out (fun h => h)
        obtain ⟨X, hX⟩ : ∃ X, X = rok L := ⟨_, rfl⟩
        rw [← hX] at HM HDE ⊢
        have hb3 := blk_alloc HB2.out (.cells #[.int .i64 k, .int .i64 cl, .int .u64 (q : Nat), .int .u64 (i : Nat), .slice op np cp, .slice ok nk ck, .slice ow nw cw, .slice ov nv cv] 29)
        have HB3 : Hid (_ = _) := hb3
        rw [← HB.out] at hb3
        clear hX hb1 hk2
        cases X with
        | false =>
          obtain ⟨x0, x1, x2, x3, x4, x5, x6, x7⟩ := cells8 hb3
          have f0 := frozen_of_blk hb3 0
          have f1 := frozen_of_blk hb3 1
          have f2 := frozen_of_blk hb3 2
          have f3 := frozen_of_blk hb3 3
          have f4 := frozen_of_blk hb3 4
          have f5 := frozen_of_blk hb3 5
          have f6 := frozen_of_blk hb3 6
          have f7 := frozen_of_blk hb3 7
          clear hb3
          go_wp2_with fail
          (try simp only [Exit.inBlock, Exit.then])
          have hs8 := set8 HB3.out (.int .i64 0) (.int .i64 0) (.int .u64 0) (.int .u64 0) (.slice none 0 0) (.slice none 0 0) (.slice none 0 0) (.slice none 0 0)
          unfold set8w at hs8
          rw [HB.out]
          refine bodyPost_ret (results_row2 rfl _ _ w.heap.size _ rfl (loadM hs8.1)) rfl ?_
          exact decD_err 2 D (by rw [HD.out, HDE.out]; rfl) ((HK2.out.alloc _).then hs8.2 (fun i hi => .inr (by unfold eqA at hi; omega)))
        | true =>
          obtain ⟨y0, y1, y2, y3, y4, y5, y6, y7⟩ := cells8 (blk_new w2 (.cells #[.int .i64 k, .int .i64 cl, .int .u64 (q : Nat), .int .u64 (i : Nat), .slice op np cp, .slice ok nk ck, .slice ow nw cw, .slice ov nv cv] 29))
          obtain ⟨x0, x1, x2, x3, x4, x5, x6, x7⟩ := cells8 hb3
          have f0 := frozen_of_blk hb3 0
          have f1 := frozen_of_blk hb3 1
          have f2 := frozen_of_blk hb3 2
          have f3 := frozen_of_blk hb3 3
          have f4 := frozen_of_blk hb3 4
          have f5 := frozen_of_blk hb3 5
          have f6 := frozen_of_blk hb3 6
          have f7 := frozen_of_blk hb3 7
          clear hb3
          go_wp2_with fail
          (try simp only [Exit.inBlock, Exit.then])
          have hs8 := set8 HB3.out (.int .i64 k) (.int .i64 cl) (.int .u64 (q : Nat)) (.int .u64 (i : Nat)) (.slice op np cp) (.slice ok nk ck) (.slice ow nw cw) (.slice ov nv cv)
          unfold set8w at hs8
          rw [HB.out]
          refine bodyPost_ret (results_row2 rfl _ _ w.heap.size _ rfl (loadM hs8.1)) rfl ?_
          rw [HD.out, HDE.out, if_pos trivial]
          have hBM : w.heap.size < M := by have := lt_of_block HB1.out; omega
          have ne : ∀ {o : Option Addr}, (∀ j, inO o j → M < j) → ∀ j, inO o j → ¬ eqA w.heap.size j := by
            intro o hn j hj e
            have := hn j hj
            unfold eqA at e
            omega
          exact ⟨k, cl, q, i, op, np, cp, ok, nk, ck, ow, nw, cw, ov, nv, cv, rs, rfl, ((HM.out trivial).keepsN ((Keeps.refl no _).alloc _)).keepsS hs8.2 (ne hFar.p) (ne hFar.k) (ne hFar.w) (ne hFar.v) (fun j hj => ne (hFar.r j hj)), (HK2.out.alloc _).then hs8.2 (fun i hi => .inr (by unfold eqA at hi; omega))⟩
      · have g1 : ¬ (n4 : Int) < V := by omega
        have g2 : (V : Int) < n4 := by omega
        go_enter Tryz.func20, Tryz.ntmps20
        go_wp2_with fail
        go_quiet (fail)
        have HK1 : Hid (Keeps no w ((w.alloc (.cells #[.int .i64 0, .int .i64 0, .int .u64 0, .int .u64 0, .slice none 0 0, .slice none 0 0, .slice none 0 0, .slice none 0 0] 29)).drewN nq)) := k0.drewN nq
        have hb1 : ((w.alloc (.cells #[.int .i64 0, .int .i64 0, .int .u64 0, .int .u64 0, .slice none 0 0, .slice none 0 0, .slice none 0 0, .slice none 0 0] 29)).drewN nq).heap[w.heap.size]? = some (.cells #[.int .i64 0, .int .i64 0, .int .u64 0, .int .u64 0, .slice none 0 0, .slice none 0 0, .slice none 0 0, .slice none 0 0] 29 (0, 0)) := blk_new w _
        generalize (w.alloc (.cells #[.int .i64 0, .int .i64 0, .int .u64 0, .int .u64 0, .slice none 0 0, .slice none 0 0, .slice none 0 0, .slice none 0 0] 29)).drewN nq = w1 at HK1 hb1 ⊢
        have HB1 : Hid (w1.heap[w.heap.size]? = some (.cells #[.int .i64 0, .int .i64 0, .int .u64 0, .int .u64 0, .slice none 0 0, .slice none 0 0, .slice none 0 0, .slice none 0 0] 29 (0, 0))) := hb1
        obtain ⟨B, hB⟩ : ∃ B, B = w.heap.size := ⟨_, rfl⟩
        have HB : Hid (B = w.heap.size) := hB
        rw [← hB] at hb1
        rw [← hB]
        clear hB c0' c1' c2' c3'
        obtain ⟨x0, x1, x2, x3, x4, x5, x6, x7⟩ := cells8 hb1
        have f0 := frozen_of_blk hb1 0
        have f1 := frozen_of_blk hb1 1
        have f2 := frozen_of_blk hb1 2
        have f3 := frozen_of_blk hb1 3
        have f4 := frozen_of_blk hb1 4
        have f5 := frozen_of_blk hb1 5
        have f6 := frozen_of_blk hb1 6
        have f7 := frozen_of_blk hb1 7
        clear hb1
        go_wp2_with fail
        (try simp only [Exit.inBlock, Exit.then])
        have hs8 := set8 HB1.out (.int .i64 0) (.int .i64 0) (.int .u64 0) (.int .u64 0) (.slice none 0 0) (.slice none 0 0) (.slice none 0 0) (.slice none 0 0)
        unfold set8w at hs8
        rw [HB.out]
        refine bodyPost_ret (results_row2 rfl _ _ w.heap.size _ rfl (loadM hs8.1)) rfl ?_
        exact decD_err 5 D (by rw [HD.out]; exact dec_more H4B.out (by rw [← HV.out]; exact HV2.out) (by rw [← HV.out]; have := HNN.out; have := HN.out; omega)) (HK1.out.then hs8.2 (fun i hi => .inr (by unfold eqA at hi; omega)))
end Go.Proofs.YtjklpcamlppegaaGreat
