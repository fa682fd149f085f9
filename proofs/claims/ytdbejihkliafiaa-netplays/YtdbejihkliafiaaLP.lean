/- NetPlays. -/
import Derived.Test.YtdbejihkliafiaaE3
namespace Go.Proofs.Ytdbejihkliafiaa
open Go.RowKit Go.Sort
set_option linter.unusedVariables false
set_option linter.unusedSimpArgs false

theorem three_blk (w : World) (a b : Obj) : ((w.alloc a).alloc b).heap[w.heap.size]? = some a ∧ ((w.alloc a).alloc b).heap[w.heap.size + 1]? = some b := two_blk w a b
def QS (w0 w : World) (N R k K : Nat) : Prop := ∃ v u F G, Qd w0 w N R v u F G K ∧ ∀ j, k ≤ j → j < 2 → v j = .pointer none ∧ u j = .pointer none
set_option maxRecDepth 20000 in
set_option maxHeartbeats 8000000 in
theorem netPlays_any (w : World) (s0 s1 s2 s3 : Int) (os : Option Addr) (ns cs : Nat) (sc : List RO) (h0 : -9223372036854775808 ≤ s0 ∧ s0 ≤ 9223372036854775807) (h1 : -9223372036854775808 ≤ s1 ∧ s1 ≤ 9223372036854775807) (h2 : -9223372036854775808 ≤ s2 ∧ s2 ≤ 9223372036854775807) (h3 : -9223372036854775808 ≤ s3 ∧ s3 ≤ 9223372036854775807) (hns : ns = sc.length) (hls : sc.length ≤ 2513169434916) (hss : Sl OE w os cs sc) (hby : ∀ r ∈ sc, (∃ bs : List UInt8, r.n = bs.length ∧ Sl BE w r.o r.c bs ∧ bs.length ≤ 140737488355320) ∧ (-9223372036854775808 ≤ r.a ∧ r.a ≤ 9223372036854775807) ∧ -9223372036854775808 ≤ r.b ∧ r.b ≤ 9223372036854775807) :
    Calls Try.prog 6 #[.agg #[.int .i64 s0, .int .i64 s1, .int .i64 s2, .int .i64 s3], .slice os ns cs] w fun e w' => e = .returned (.bool true) ∧ Keeps no w w' := by
  have HSS : Hid (ns = sc.length ∧ Sl OE w os cs sc ∧ ∀ r ∈ sc, (∃ bs : List UInt8, r.n = bs.length ∧ Sl BE w r.o r.c bs ∧ bs.length ≤ 140737488355320) ∧ (-9223372036854775808 ≤ r.a ∧ r.a ≤ 9223372036854775807) ∧ -9223372036854775808 ≤ r.b ∧ r.b ≤ 9223372036854775807) := ⟨hns, hss, hby⟩
  have HSZ : Hid ((-9223372036854775808 ≤ s0 ∧ s0 ≤ 9223372036854775807) ∧ (-9223372036854775808 ≤ s1 ∧ s1 ≤ 9223372036854775807) ∧ (-9223372036854775808 ≤ s2 ∧ s2 ≤ 9223372036854775807) ∧ -9223372036854775808 ≤ s3 ∧ s3 ≤ 9223372036854775807) := ⟨h0, h1, h2, h3⟩
  have hnsB : (ns : Int) ≤ 2513169434916 := by omega
  clear hns hls hss hby h0 h1 h2 h3
  obtain ⟨BZ, hBZ⟩ : ∃ BZ, BZ = w.heap.size := ⟨_, rfl⟩
  have HWZ : Hid (∀ X, X = w.alloc (.cells #[.int .i64 s0, .int .i64 s1, .int .i64 s2, .int .i64 s3] 49) → X.heap[BZ]? = some (.cells #[.int .i64 s0, .int .i64 s1, .int .i64 s2, .int .i64 s3] 49 (0, 0)) ∧ Keeps no w X) := by
    rintro X rfl
    exact ⟨by rw [hBZ]; exact blk_new w _, (Keeps.refl _ _).alloc _⟩
  go_enter Try.func6, Try.ntmps6
  go_wp2_with fail
  have hX := HWZ.out _ rfl
  rw [← hBZ]
  generalize w.alloc (.cells #[.int .i64 s0, .int .i64 s1, .int .i64 s2, .int .i64 s3] 49) = wz at hX ⊢
  refine (alive_any wz).mono ?_
  rintro e w1 ⟨rfl, hk1⟩
  have HB1 : Hid (w1.heap[BZ]? = some (.cells #[.int .i64 s0, .int .i64 s1, .int .i64 s2, .int .i64 s3] 49 (0, 0)) ∧ Keeps no w w1) := ⟨hk1.at hX.1 (fun h => h), hX.2.trans hk1⟩
  clear hX hk1 HWZ hBZ
  obtain ⟨N, hN⟩ : ∃ N, N = w1.heap.size := ⟨_, rfl⟩
  have HW2 : Hid (∀ X, X = (w1.alloc (.cells #[.pointer none, .pointer none] 50)).alloc (.cells #[.pointer none, .pointer none] 52) → QS w1 X N (N + 1) 0 0 ∧ Keeps no w1 X) := by
    rintro X rfl
    have h2 := two_blk w1 (.cells #[.pointer none, .pointer none] 50) (.cells #[.pointer none, .pointer none] 52)
    rw [← hN] at h2
    exact ⟨⟨fun _ => .pointer none, fun _ => .pointer none, fun _ _ => False, fun _ _ => False, ⟨fun j _ => .inl ⟨rfl, rfl, fun _ h => h, fun _ h => h⟩, fun _ _ _ _ _ _ h => h.elim (fun h => h.elim) (fun h => h.elim), h2.1, h2.2, fun _ _ _ h => h.elim (fun h => h.elim) (fun h => h.elim), by omega, by omega, by omega, ((Keeps.refl _ _).alloc _).alloc _⟩, fun _ _ _ => ⟨rfl, rfl⟩⟩, ((Keeps.refl _ _).alloc _).alloc _⟩
  go_upto_region 5 with fail
  have h2 := HW2.out _ rfl
  rw [← hN]
  generalize (w1.alloc (.cells #[.pointer none, .pointer none] 50)).alloc (.cells #[.pointer none, .pointer none] 52) = w2 at h2 ⊢
  have HQ0 : Hid (QS w1 w2 N (N + 1) 0 0) := h2.1
  clear h2 HW2 hN
  go_wp2_with fail
  go_loopw [7] (fun s7 wr => ∃ k : Nat, k ≤ 2 ∧ s7 = .int .i64 k ∧ Hid (QS w1 wr N (N + 1) k 0)) (fun s7 _ => 2 - (intOf s7).toNat)
  case atStart => exact ⟨0, by omega, rfl, HQ0⟩
  case round =>
    rename World => wr
    obtain ⟨k, hk, rfl, HQ⟩ := hrel
    clear HQ0
    have hcs : k = 0 ∨ k = 1 ∨ k = 2 := by omega
    rcases hcs with rfl | rfl | rfl
    · have HZC : Hid (wr.cell? ⟨BZ, 0, none⟩ = some (.int .i64 s0) ∧ wr.cell? ⟨BZ, 1, none⟩ = some (.int .i64 s1)) := by
        obtain ⟨v, u, F0, G0, hq, hnil⟩ := HQ.out
        have hb := hq.kp.at HB1.out.1 (fun h => h)
        exact ⟨by rw [cell_of_blk hb]; rfl, by rw [cell_of_blk hb]; rfl⟩
      have HZB : Hid ((-9223372036854775808 ≤ s0 ∧ s0 ≤ 9223372036854775807) ∧ -9223372036854775808 ≤ s1 ∧ s1 ≤ 9223372036854775807) := ⟨HSZ.out.1, HSZ.out.2.1⟩
      have z0 := HZC.out.1
      have z1 := HZC.out.2
      by_cases hg : 1 ≤ s0 ∧ s0 ≤ 64 ∧ 1 ≤ s1 ∧ s1 ≤ 16
      · have HG : Hid (1 ≤ s0 ∧ s0 ≤ 64 ∧ 1 ≤ s1 ∧ s1 ≤ 16) := hg
        clear hg
        go_upto_region 8 with fail
        go_cut [8, 9] from 21 to 33 (fun t8 t9 wx => ∃ p, t8 = .pointer (some ⟨p, 0, none⟩) ∧ t9 = .int .i64 0 ∧ Hid (∃ F, IsN wx p F (newS s0 s1) ∧ (∀ i, F i → wr.heap.size ≤ i) ∧ Keeps no wr wx))
        case first =>
          go_region_with (go_at_call 8; refine (nNew_any _ s0 s1 HZB.out.1 HZB.out.2).mono ?_; intro e w3 hN; obtain ⟨p, F, rfl, g1, g2, g3⟩ := hN.2 HG.out)
          all_goals
            have HZ : Hid (∃ F, IsN w3 p F (newS s0 s1) ∧ (∀ i, F i → wr.heap.size ≤ i) ∧ Keeps no wr w3) := ⟨F, g1, g2, ((Keeps.refl no wr).drew).trans g3⟩
            clear g1 g2 g3 hN
            go_wp2_with fail
            go_meet
            exact ⟨p, rfl, rfl, HZ⟩
        case rest =>
          obtain ⟨p, rfl, rfl, HX1⟩ := hcut
          have HKC : Hid (Keeps no wr wc) := by obtain ⟨F, _, _, k⟩ := HX1.out; exact k
          rename World => wx
          clear z0 z1
          have z0 := HKC.out.cellN HZC.out.1
          have z1 := HKC.out.cellN HZC.out.2
          go_upto_region 9 with fail
          go_cut [10, 11] from 34 to 46 (fun t10 t11 wy => ∃ q, t10 = .pointer (some ⟨q, 0, none⟩) ∧ t11 = .int .i64 0 ∧ Hid (∃ G, IsD wy q G (newS s0 s1) ∧ (∀ i, G i → wx.heap.size ≤ i) ∧ Keeps no wx wy))
          case first =>
            go_region_with (go_at_call 18; refine (dNew_any _ s0 s1 HZB.out.1 HZB.out.2).mono ?_; intro e w3 hN; obtain ⟨q, G, rfl, g1, g2, g3⟩ := hN.2 HG.out)
            all_goals
              have HZ : Hid (∃ G, IsD w3 q G (newS s0 s1) ∧ (∀ i, G i → wx.heap.size ≤ i) ∧ Keeps no wx w3) := ⟨G, g1, g2, ((Keeps.refl no wx).drew).trans g3⟩
              clear g1 g2 g3 hN
              go_wp2_with fail
              go_meet
              exact ⟨q, rfl, rfl, HZ⟩
          case rest =>
            obtain ⟨q, rfl, rfl, HX2⟩ := hcut
            rename World => wy
            have HQY : Hid (QS w1 ((wy.setCell ⟨N, 0, none⟩ (.pointer (some ⟨p, 0, none⟩))).setCell ⟨N + 1, 0, none⟩ (.pointer (some ⟨q, 0, none⟩))) N (N + 1) (0 + 1) 0 ∧ wy.cell? ⟨N, 0, none⟩ = some (.pointer none) ∧ wy.cell? ⟨N + 1, 0, none⟩ = some (.pointer none) ∧ wy.frozen? ⟨N, 0, none⟩ = false ∧ wy.frozen? ⟨N + 1, 0, none⟩ = false) := by
              obtain ⟨v, u, F0, G0, hq, hnil⟩ := HQ.out
              obtain ⟨F, g1, g2, g3⟩ := HX1.out
              obtain ⟨G, e1, e2, e3⟩ := HX2.out
              have k4 := g3.trans e3
              have hqy := hq.keepsN k4
              obtain ⟨q1, q2, q3, q4⟩ := hqy.cellsN (k := 0) (by omega)
              obtain ⟨n1, n2⟩ := hnil 0 (by omega) (by omega)
              rw [n1] at q1
              rw [n2] at q2
              have hno : ∀ x, ¬ F0 0 x ∧ ¬ G0 0 x := by
                rcases hq.sd 0 (by omega) with ⟨_, _, h1, h2⟩ | ⟨p', q', s', h1, _⟩
                · exact fun x => ⟨h1 x, h2 x⟩
                · rw [n1] at h1; cases h1
              have hl := g1.lt
              have hsz := g3.size
              have htw : Two wy p q F G (newS s0 s1) 0 := ⟨g1.keepsN e3, e1, fun i hi hg => by have := hl i hi; have := e2 i hg; omega, newS_wf HG.out.1 HG.out.2.1 HG.out.2.2.1 HG.out.2.2.2⟩
              refine ⟨⟨_, _, _, _, hq.make (by omega) hno k4 htw (fun x hx => hx.elim (g2 x) (fun h => by have := e2 x h; omega)), fun j hj hj2 => ?_⟩, q1, q2, q3, q4⟩
              have hne : ¬ j = 0 := by omega
              simp only [if_neg hne]
              exact hnil j (by omega) hj2
            have b1 := HQY.out.2.1
            have b2 := HQY.out.2.2.1
            have b3 := HQY.out.2.2.2.1
            have b4 := HQY.out.2.2.2.2
            have HQN : Hid (QS w1 ((wy.setCell ⟨N, 0, none⟩ (.pointer (some ⟨p, 0, none⟩))).setCell ⟨N + 1, 0, none⟩ (.pointer (some ⟨q, 0, none⟩))) N (N + 1) (0 + 1) 0) := HQY.out.1
            have hne1 : ¬ N = N + 1 := by omega
            have hne2 : ¬ N + 1 = N := by omega
            clear HQY HX1 HX2 z0 z1
            go_wp2_with fail
            go_roundw
            case rel => exact ⟨0 + 1, by omega, by first | rfl | go_num, HQN⟩
            case measure => simp [intOf]
      · have HG : Hid (¬ (1 ≤ s0 ∧ s0 ≤ 64 ∧ 1 ≤ s1 ∧ s1 ≤ 16)) := hg
        clear hg
        go_upto_region 8 with fail
        go_cut [8, 9] from 21 to 33 (fun t8 t9 wx => t8 = .pointer none ∧ t9 = .int .i64 1 ∧ Hid (Keeps no wr wx))
        case first =>
          go_region_with (go_at_call 8; refine (nNew_any _ s0 s1 HZB.out.1 HZB.out.2).mono ?_; intro e w3 hN; obtain ⟨rfl, g3⟩ := hN.1 HG.out)
          all_goals
            have HZ : Hid (Keeps no wr w3) := ((Keeps.refl no wr).drew).trans g3
            clear g3 hN
            go_wp2_with fail
            go_meet
            exact ⟨rfl, rfl, HZ⟩
        case rest =>
          obtain ⟨rfl, rfl, HX1⟩ := hcut
          rename World => wx
          clear z0 z1
          have z0 := HX1.out.cellN HZC.out.1
          have z1 := HX1.out.cellN HZC.out.2
          go_upto_region 9 with fail
          go_cut [10, 11] from 34 to 46 (fun t10 t11 wy => t10 = .pointer none ∧ t11 = .int .i64 1 ∧ Hid (Keeps no wx wy))
          case first =>
            go_region_with (go_at_call 18; refine (dNew_any _ s0 s1 HZB.out.1 HZB.out.2).mono ?_; intro e w3 hN; obtain ⟨rfl, g3⟩ := hN.1 HG.out)
            all_goals
              have HZ : Hid (Keeps no wx w3) := ((Keeps.refl no wx).drew).trans g3
              clear g3 hN
              go_wp2_with fail
              go_meet
              exact ⟨rfl, rfl, HZ⟩
          case rest =>
            obtain ⟨rfl, rfl, HX2⟩ := hcut
            rename World => wy
            have HQY : Hid (QS w1 ((wy.setCell ⟨N, 0, none⟩ (.pointer none)).setCell ⟨N + 1, 0, none⟩ (.pointer none)) N (N + 1) (0 + 1) 0 ∧ wy.cell? ⟨N, 0, none⟩ = some (.pointer none) ∧ wy.cell? ⟨N + 1, 0, none⟩ = some (.pointer none) ∧ wy.frozen? ⟨N, 0, none⟩ = false ∧ wy.frozen? ⟨N + 1, 0, none⟩ = false) := by
              obtain ⟨v, u, F0, G0, hq, hnil⟩ := HQ.out
              have k4 := HX1.out.trans HX2.out
              have hqy := hq.keepsN k4
              obtain ⟨q1, q2, q3, q4⟩ := hqy.cellsN (k := 0) (by omega)
              obtain ⟨n1, n2⟩ := hnil 0 (by omega) (by omega)
              rw [n1] at q1
              rw [n2] at q2
              exact ⟨⟨_, _, _, _, hq.none (by omega) n1 n2 k4, fun j hj hj2 => hnil j (by omega) hj2⟩, q1, q2, q3, q4⟩
            have b1 := HQY.out.2.1
            have b2 := HQY.out.2.2.1
            have b3 := HQY.out.2.2.2.1
            have b4 := HQY.out.2.2.2.2
            have HQN : Hid (QS w1 ((wy.setCell ⟨N, 0, none⟩ (.pointer none)).setCell ⟨N + 1, 0, none⟩ (.pointer none)) N (N + 1) (0 + 1) 0) := HQY.out.1
            have hne1 : ¬ N = N + 1 := by omega
            have hne2 : ¬ N + 1 = N := by omega
            clear HQY HX1 HX2 z0 z1
            go_wp2_with fail
            go_roundw
            case rel => exact ⟨0 + 1, by omega, by first | rfl | go_num, HQN⟩
            case measure => simp [intOf]
    · have HZC : Hid (wr.cell? ⟨BZ, 2, none⟩ = some (.int .i64 s2) ∧ wr.cell? ⟨BZ, 3, none⟩ = some (.int .i64 s3)) := by
        obtain ⟨v, u, F0, G0, hq, hnil⟩ := HQ.out
        have hb := hq.kp.at HB1.out.1 (fun h => h)
        exact ⟨by rw [cell_of_blk hb]; rfl, by rw [cell_of_blk hb]; rfl⟩
      have HZB : Hid ((-9223372036854775808 ≤ s2 ∧ s2 ≤ 9223372036854775807) ∧ -9223372036854775808 ≤ s3 ∧ s3 ≤ 9223372036854775807) := ⟨HSZ.out.2.2.1, HSZ.out.2.2.2⟩
      have z0 := HZC.out.1
      have z1 := HZC.out.2
      by_cases hg : 1 ≤ s2 ∧ s2 ≤ 64 ∧ 1 ≤ s3 ∧ s3 ≤ 16
      · have HG : Hid (1 ≤ s2 ∧ s2 ≤ 64 ∧ 1 ≤ s3 ∧ s3 ≤ 16) := hg
        clear hg
        go_upto_region 8 with fail
        go_cut [8, 9] from 21 to 33 (fun t8 t9 wx => ∃ p, t8 = .pointer (some ⟨p, 0, none⟩) ∧ t9 = .int .i64 0 ∧ Hid (∃ F, IsN wx p F (newS s2 s3) ∧ (∀ i, F i → wr.heap.size ≤ i) ∧ Keeps no wr wx))
        case first =>
          go_region_with (go_at_call 8; refine (nNew_any _ s2 s3 HZB.out.1 HZB.out.2).mono ?_; intro e w3 hN; obtain ⟨p, F, rfl, g1, g2, g3⟩ := hN.2 HG.out)
          all_goals
            have HZ : Hid (∃ F, IsN w3 p F (newS s2 s3) ∧ (∀ i, F i → wr.heap.size ≤ i) ∧ Keeps no wr w3) := ⟨F, g1, g2, ((Keeps.refl no wr).drew).trans g3⟩
            clear g1 g2 g3 hN
            go_wp2_with fail
            go_meet
            exact ⟨p, rfl, rfl, HZ⟩
        case rest =>
          obtain ⟨p, rfl, rfl, HX1⟩ := hcut
          have HKC : Hid (Keeps no wr wc) := by obtain ⟨F, _, _, k⟩ := HX1.out; exact k
          rename World => wx
          clear z0 z1
          have z0 := HKC.out.cellN HZC.out.1
          have z1 := HKC.out.cellN HZC.out.2
          go_upto_region 9 with fail
          go_cut [10, 11] from 34 to 46 (fun t10 t11 wy => ∃ q, t10 = .pointer (some ⟨q, 0, none⟩) ∧ t11 = .int .i64 0 ∧ Hid (∃ G, IsD wy q G (newS s2 s3) ∧ (∀ i, G i → wx.heap.size ≤ i) ∧ Keeps no wx wy))
          case first =>
            go_region_with (go_at_call 18; refine (dNew_any _ s2 s3 HZB.out.1 HZB.out.2).mono ?_; intro e w3 hN; obtain ⟨q, G, rfl, g1, g2, g3⟩ := hN.2 HG.out)
            all_goals
              have HZ : Hid (∃ G, IsD w3 q G (newS s2 s3) ∧ (∀ i, G i → wx.heap.size ≤ i) ∧ Keeps no wx w3) := ⟨G, g1, g2, ((Keeps.refl no wx).drew).trans g3⟩
              clear g1 g2 g3 hN
              go_wp2_with fail
              go_meet
              exact ⟨q, rfl, rfl, HZ⟩
          case rest =>
            obtain ⟨q, rfl, rfl, HX2⟩ := hcut
            rename World => wy
            have HQY : Hid (QS w1 ((wy.setCell ⟨N, 1, none⟩ (.pointer (some ⟨p, 0, none⟩))).setCell ⟨N + 1, 1, none⟩ (.pointer (some ⟨q, 0, none⟩))) N (N + 1) (1 + 1) 0 ∧ wy.cell? ⟨N, 1, none⟩ = some (.pointer none) ∧ wy.cell? ⟨N + 1, 1, none⟩ = some (.pointer none) ∧ wy.frozen? ⟨N, 1, none⟩ = false ∧ wy.frozen? ⟨N + 1, 1, none⟩ = false) := by
              obtain ⟨v, u, F0, G0, hq, hnil⟩ := HQ.out
              obtain ⟨F, g1, g2, g3⟩ := HX1.out
              obtain ⟨G, e1, e2, e3⟩ := HX2.out
              have k4 := g3.trans e3
              have hqy := hq.keepsN k4
              obtain ⟨q1, q2, q3, q4⟩ := hqy.cellsN (k := 1) (by omega)
              obtain ⟨n1, n2⟩ := hnil 1 (by omega) (by omega)
              rw [n1] at q1
              rw [n2] at q2
              have hno : ∀ x, ¬ F0 1 x ∧ ¬ G0 1 x := by
                rcases hq.sd 1 (by omega) with ⟨_, _, h1, h2⟩ | ⟨p', q', s', h1, _⟩
                · exact fun x => ⟨h1 x, h2 x⟩
                · rw [n1] at h1; cases h1
              have hl := g1.lt
              have hsz := g3.size
              have htw : Two wy p q F G (newS s2 s3) 0 := ⟨g1.keepsN e3, e1, fun i hi hg => by have := hl i hi; have := e2 i hg; omega, newS_wf HG.out.1 HG.out.2.1 HG.out.2.2.1 HG.out.2.2.2⟩
              refine ⟨⟨_, _, _, _, hq.make (by omega) hno k4 htw (fun x hx => hx.elim (g2 x) (fun h => by have := e2 x h; omega)), fun j hj hj2 => ?_⟩, q1, q2, q3, q4⟩
              have hne : ¬ j = 1 := by omega
              simp only [if_neg hne]
              exact hnil j (by omega) hj2
            have b1 := HQY.out.2.1
            have b2 := HQY.out.2.2.1
            have b3 := HQY.out.2.2.2.1
            have b4 := HQY.out.2.2.2.2
            have HQN : Hid (QS w1 ((wy.setCell ⟨N, 1, none⟩ (.pointer (some ⟨p, 0, none⟩))).setCell ⟨N + 1, 1, none⟩ (.pointer (some ⟨q, 0, none⟩))) N (N + 1) (1 + 1) 0) := HQY.out.1
            have hne1 : ¬ N = N + 1 := by omega
            have hne2 : ¬ N + 1 = N := by omega
            clear HQY HX1 HX2 z0 z1
            go_wp2_with fail
            go_roundw
            case rel => exact ⟨1 + 1, by omega, by first | rfl | go_num, HQN⟩
            case measure => simp [intOf]
      · have HG : Hid (¬ (1 ≤ s2 ∧ s2 ≤ 64 ∧ 1 ≤ s3 ∧ s3 ≤ 16)) := hg
        clear hg
        go_upto_region 8 with fail
        go_cut [8, 9] from 21 to 33 (fun t8 t9 wx => t8 = .pointer none ∧ t9 = .int .i64 1 ∧ Hid (Keeps no wr wx))
        case first =>
          go_region_with (go_at_call 8; refine (nNew_any _ s2 s3 HZB.out.1 HZB.out.2).mono ?_; intro e w3 hN; obtain ⟨rfl, g3⟩ := hN.1 HG.out)
          all_goals
            have HZ : Hid (Keeps no wr w3) := ((Keeps.refl no wr).drew).trans g3
            clear g3 hN
            go_wp2_with fail
            go_meet
            exact ⟨rfl, rfl, HZ⟩
        case rest =>
          obtain ⟨rfl, rfl, HX1⟩ := hcut
          rename World => wx
          clear z0 z1
          have z0 := HX1.out.cellN HZC.out.1
          have z1 := HX1.out.cellN HZC.out.2
          go_upto_region 9 with fail
          go_cut [10, 11] from 34 to 46 (fun t10 t11 wy => t10 = .pointer none ∧ t11 = .int .i64 1 ∧ Hid (Keeps no wx wy))
          case first =>
            go_region_with (go_at_call 18; refine (dNew_any _ s2 s3 HZB.out.1 HZB.out.2).mono ?_; intro e w3 hN; obtain ⟨rfl, g3⟩ := hN.1 HG.out)
            all_goals
              have HZ : Hid (Keeps no wx w3) := ((Keeps.refl no wx).drew).trans g3
              clear g3 hN
              go_wp2_with fail
              go_meet
              exact ⟨rfl, rfl, HZ⟩
          case rest =>
            obtain ⟨rfl, rfl, HX2⟩ := hcut
            rename World => wy
            have HQY : Hid (QS w1 ((wy.setCell ⟨N, 1, none⟩ (.pointer none)).setCell ⟨N + 1, 1, none⟩ (.pointer none)) N (N + 1) (1 + 1) 0 ∧ wy.cell? ⟨N, 1, none⟩ = some (.pointer none) ∧ wy.cell? ⟨N + 1, 1, none⟩ = some (.pointer none) ∧ wy.frozen? ⟨N, 1, none⟩ = false ∧ wy.frozen? ⟨N + 1, 1, none⟩ = false) := by
              obtain ⟨v, u, F0, G0, hq, hnil⟩ := HQ.out
              have k4 := HX1.out.trans HX2.out
              have hqy := hq.keepsN k4
              obtain ⟨q1, q2, q3, q4⟩ := hqy.cellsN (k := 1) (by omega)
              obtain ⟨n1, n2⟩ := hnil 1 (by omega) (by omega)
              rw [n1] at q1
              rw [n2] at q2
              exact ⟨⟨_, _, _, _, hq.none (by omega) n1 n2 k4, fun j hj hj2 => hnil j (by omega) hj2⟩, q1, q2, q3, q4⟩
            have b1 := HQY.out.2.1
            have b2 := HQY.out.2.2.1
            have b3 := HQY.out.2.2.2.1
            have b4 := HQY.out.2.2.2.2
            have HQN : Hid (QS w1 ((wy.setCell ⟨N, 1, none⟩ (.pointer none)).setCell ⟨N + 1, 1, none⟩ (.pointer none)) N (N + 1) (1 + 1) 0) := HQY.out.1
            have hne1 : ¬ N = N + 1 := by omega
            have hne2 : ¬ N + 1 = N := by omega
            clear HQY HX1 HX2 z0 z1
            go_wp2_with fail
            go_roundw
            case rel => exact ⟨1 + 1, by omega, by first | rfl | go_num, HQN⟩
            case measure => simp [intOf]
    · clear HSZ
      have HQ2 : Hid (∃ v u F G, Qd w1 wr N (N + 1) v u F G 0) := by
        obtain ⟨v, u, F, G, hq, _⟩ := HQ.out
        exact ⟨v, u, F, G, hq⟩
      clear HQ
      rename World => wq
      go_wp2_with fail
      go_loopw [12] (fun s12 wr => ∃ i : Nat, i ≤ ns ∧ s12 = .int .i64 i ∧ Hid (∃ v u F G, Qd w1 wr N (N + 1) v u F G i)) (fun s12 _ => ns - (intOf s12).toNat)
      case atStart => exact ⟨0, by omega, rfl, HQ2⟩
      case round =>
        rename World => wr
        obtain ⟨i, hi, rfl, HR⟩ := hrel
        clear HQ2
        have hiB : (i : Int) ≤ 2513169434916 := by omega
        by_cases hlt : i < ns
        · have hlt' : (i : Int) < ns := by omega
          obtain ⟨v, u, F, G, hq⟩ := HR.out
          have HKR : Hid (Keeps no w wr) := HB1.out.2.trans hq.kp
          obtain ⟨b1, off1, ho, AA⟩ := row_at5 HSS.out.2.1.row (j := i) (by rw [← HSS.out.1]; exact hlt)
          have HPB := HSS.out.2.2 (sc.getD i ro0) (by rw [getD_at (by rw [← HSS.out.1]; exact hlt) ro0]; exact List.getElem_mem _)
          subst ho
          generalize sc.getD i ro0 = rr at AA HPB
          obtain ⟨kd, wh, A, B, bo, bn, bc⟩ := rr
          simp only at HPB
          have HSC : Hid (∀ X, Keeps no w X → X.cell? ⟨b1, off1 + i * 5, none⟩ = some (.int .i64 kd) ∧ X.cell? ⟨b1, off1 + i * 5 + 1, none⟩ = some (.int .i64 wh) ∧ X.cell? ⟨b1, off1 + i * 5 + 2, none⟩ = some (.int .i64 A) ∧ X.cell? ⟨b1, off1 + i * 5 + 3, none⟩ = some (.int .i64 B) ∧ X.cell? ⟨b1, off1 + i * 5 + 4, none⟩ = some (.slice bo bn bc)) := fun X k => ⟨k.cellN AA.c0, k.cellN AA.c1, k.cellN AA.c2, k.cellN AA.c3, k.cellN AA.c4⟩
          clear AA
          obtain ⟨a0, a1, a2, a3, a4⟩ := HSC.out wr HKR.out
          have HPB : Hid _ := HPB
          have hand : bits .and .i64 wh 1 = wh % 2 := i64_and1 wh
          have h2 : wh % 2 = 0 ∨ wh % 2 = 1 := by omega
          rcases h2 with h2 | h2
          · rw [h2] at hand
            clear h2
            obtain ⟨c1, c2, -, -⟩ := hq.cellsN (k := 0) (by omega)
            rcases hq.sd 0 (by omega) with ⟨hv, hu, -, -⟩ | ⟨p, q, s, hv, hu, ht⟩
            · rw [hv] at c1
              have HNX : Hid (∃ v u F G, Qd w1 wr N (N + 1) v u F G (i + 1)) := ⟨v, u, F, G, hq.more (by omega)⟩
              clear hq hv hu HR HPB c2 HKR
              go_wp2_with fail
              go_roundw
              case rel => exact ⟨i + 1, by omega, by go_num, HNX⟩
              case measure => simp [intOf]; omega
            · rw [hv] at c1
              rw [hu] at c2
              have HQ : Hid (Qd w1 wr.drew N (N + 1) v u F G i ∧ Two wr.drew p q (F 0) (G 0) s i ∧ v 0 = .pointer (some ⟨p, 0, none⟩) ∧ u 0 = .pointer (some ⟨q, 0, none⟩)) := ⟨hq.keepsN ((Keeps.refl _ _).drew), ht.keepsN ((Keeps.refl _ _).drew), hv, hu⟩
              have HPL : Hid (Calls Try.prog 19 #[.pointer (some ⟨p, 0, none⟩), .pointer (some ⟨q, 0, none⟩), .agg #[.int .i64 kd, .int .i64 wh, .int .i64 A, .int .i64 B, .slice bo bn bc]] wr.drew (PlTo wr.drew p q (F 0) (G 0) (i + 1))) := by
                obtain ⟨⟨bs, hbn, hbs, hbl⟩, hA, hB⟩ := HPB.out
                refine plays_any wr.drew p q (F 0) (G 0) s i kd wh A B bo bn bc bs (ht.keepsN ((Keeps.refl _ _).drew)) (by omega) hbn hbl (hbs.keepsN (HKR.out.drew)) (fun hb x hx => ?_) hA hB
                have h1 := hbs.lt okB hb x hx
                have h3 := HB1.out.2.size
                exact ⟨fun hf => by have := (hq.out 0 (by omega) x (.inl hf)).2.2; omega, fun hf => by have := (hq.out 0 (by omega) x (.inr hf)).2.2; omega⟩
              clear hq hv hu ht HR HPB HKR
              go_upto_region 19 with fail
              go_cut [14] from 79 to 89 (fun t14 wx => t14 = .bool true ∧ Hid (∃ s' F' G', Qd w1 wx N (N + 1) v u F' G' (i + 1) ∧ Two wx p q (F' 0) (G' 0) s' (i + 1)))
              case first =>
                as_aux_lemma =>
                --R19
                have HPS : Hid (∀ X, (∃ s' F' G', Qd w1 X N (N + 1) v u F' G' (i + 1) ∧ Two X p q (F' 0) (G' 0) s' (i + 1)) → X.cell? ⟨N, 0, none⟩ = some (.pointer (some ⟨p, 0, none⟩)) ∧ X.cell? ⟨N + 1, 0, none⟩ = some (.pointer (some ⟨q, 0, none⟩)) ∧ X.cell? ⟨b1, off1 + i * 5, none⟩ = some (.int .i64 kd) ∧ X.cell? ⟨b1, off1 + i * 5 + 1, none⟩ = some (.int .i64 wh) ∧ X.cell? ⟨b1, off1 + i * 5 + 2, none⟩ = some (.int .i64 A) ∧ X.cell? ⟨b1, off1 + i * 5 + 3, none⟩ = some (.int .i64 B) ∧ X.cell? ⟨b1, off1 + i * 5 + 4, none⟩ = some (.slice bo bn bc)) := by
                  rintro X ⟨s', F', G', g1, g2⟩
                  obtain ⟨y1, y2, -, -⟩ := g1.cellsN (k := 0) (by omega)
                  rw [HQ.out.2.2.1] at y1
                  rw [HQ.out.2.2.2] at y2
                  exact ⟨y1, y2, HSC.out X (HB1.out.2.trans g1.kp)⟩
                have HPW : Hid (∀ X, Keeps no wr X → X.cell? ⟨N, 0, none⟩ = some (.pointer (some ⟨p, 0, none⟩)) ∧ X.cell? ⟨N + 1, 0, none⟩ = some (.pointer (some ⟨q, 0, none⟩)) ∧ X.cell? ⟨b1, off1 + i * 5, none⟩ = some (.int .i64 kd) ∧ X.cell? ⟨b1, off1 + i * 5 + 1, none⟩ = some (.int .i64 wh) ∧ X.cell? ⟨b1, off1 + i * 5 + 2, none⟩ = some (.int .i64 A) ∧ X.cell? ⟨b1, off1 + i * 5 + 3, none⟩ = some (.int .i64 B) ∧ X.cell? ⟨b1, off1 + i * 5 + 4, none⟩ = some (.slice bo bn bc)) := fun X k => ⟨k.cellN c1, k.cellN c2, k.cellN a0, k.cellN a1, k.cellN a2, k.cellN a3, k.cellN a4⟩
                go_region_held3 (fun X => X.cell? ⟨N, 0, none⟩ = some (.pointer (some ⟨p, 0, none⟩)) ∧ X.cell? ⟨N + 1, 0, none⟩ = some (.pointer (some ⟨q, 0, none⟩)) ∧ X.cell? ⟨b1, off1 + i * 5, none⟩ = some (.int .i64 kd) ∧ X.cell? ⟨b1, off1 + i * 5 + 1, none⟩ = some (.int .i64 wh) ∧ X.cell? ⟨b1, off1 + i * 5 + 2, none⟩ = some (.int .i64 A) ∧ X.cell? ⟨b1, off1 + i * 5 + 3, none⟩ = some (.int .i64 B) ∧ X.cell? ⟨b1, off1 + i * 5 + 4, none⟩ = some (.slice bo bn bc)) (first | exact HPW.out _ ((Keeps.refl no wr).drew) | exact HPW.out _ (Keeps.refl no wr) | exact HPS.out _ HZ.out) ((go_at_call 19; refine HPL.out.mono ?_; rintro e w3 ⟨rfl, hpl⟩; have HZ : Hid (∃ s' F' G', Qd w1 w3 N (N + 1) v u F' G' (i + 1) ∧ Two w3 p q (F' 0) (G' 0) s' (i + 1)) := (by obtain ⟨s', hpl⟩ := hpl; obtain ⟨F', G', g1, g2⟩ := HQ.out.1.step (by omega) (by omega) HQ.out.2.2.1 HQ.out.2.2.2 hpl; exact ⟨s', F', G', g1, g2⟩); clear hpl))
                all_goals
                  go_wp2_with fail
                  go_meet
                  exact ⟨rfl, HZ⟩
              case rest =>
                obtain ⟨rfl, HX⟩ := hcut
                obtain ⟨s', F', G', hq, ht⟩ := HX.out
                have HVU : Hid (v 0 = .pointer (some ⟨p, 0, none⟩) ∧ u 0 = .pointer (some ⟨q, 0, none⟩)) := ⟨HQ.out.2.2.1, HQ.out.2.2.2⟩
                have HT : Hid (∀ X, Keeps no wc X → X.cell? ⟨N, 0, none⟩ = some (.pointer (some ⟨p, 0, none⟩)) ∧ X.cell? ⟨N + 1, 0, none⟩ = some (.pointer (some ⟨q, 0, none⟩)) ∧ Two X p q (F' 0) (G' 0) s' (i + 1)) := by
                  intro X k
                  obtain ⟨z1, z2, -, -⟩ := (hq.keepsN k).cellsN (k := 0) (by omega)
                  rw [HVU.out.1] at z1
                  rw [HVU.out.2] at z2
                  exact ⟨z1, z2, ht.keepsN k⟩
                have HQ2 : Hid (Qd w1 wc N (N + 1) v u F' G' (i + 1)) := hq
                have hi1 : i + 1 ≤ 2600000000000 := by omega
                clear c1 c2 hq ht HX HQ HPL HVU
                have c1 := (HT.out _ (Keeps.refl _ _)).1
                have c2 := (HT.out _ (Keeps.refl _ _)).2.1
                go_upto_region 20 with fail
                go_cut [114] from 90 to 113 (fun t114 wx => t114 = .bool false ∧ Hid (Keeps no wc wx))
                case first =>
                  as_aux_lemma =>
                  --R20
                  have HPW : Hid (∀ X, Keeps no wc X → X.cell? ⟨N, 0, none⟩ = some (.pointer (some ⟨p, 0, none⟩)) ∧ X.cell? ⟨N + 1, 0, none⟩ = some (.pointer (some ⟨q, 0, none⟩))) := fun X k => ⟨(HT.out X k).1, (HT.out X k).2.1⟩
                  go_region_held3 (fun X => X.cell? ⟨N, 0, none⟩ = some (.pointer (some ⟨p, 0, none⟩)) ∧ X.cell? ⟨N + 1, 0, none⟩ = some (.pointer (some ⟨q, 0, none⟩))) (first | exact HPW.out _ ((Keeps.refl no wc).drew) | exact HPW.out _ (Keeps.refl no wc) | exact HPW.out _ KF.out | exact HPW.out _ KE.out | exact HPW.out _ KD.out | exact HPW.out _ KB.out | exact HPW.out _ KA.out) ((first
                    | (go_at_call 21; refine (sameFlight_yes we o1 n1 c1' r1 o2 n2 c2' r2 s'.fl H1.out.1 H2.out.1 (by have hh1 := (HT.out _ KE.out).2.2.wf.len; have hh2 := (HT.out _ KE.out).2.2.wf.num; omega) (H1.out.2.keepsN H2.out.2.2) H2.out.2.1).mono ?_; rintro e wf ⟨rfl, kf⟩; have KF : Hid (Keeps no wc wf) := KE.out.trans kf; clear kf)
                    | (go_at_call 22; refine (dFlight_any wd q _ s' (i + 1) (HT.out _ KD.out).2.2.d (HT.out _ KD.out).2.2.wf hi1).mono ?_; rintro e we ⟨o2, n2, c2', r2, rfl, hn2, hf2, hl2, ke1⟩; have H2 : Hid (n2 = s'.fl.length ∧ Fv DE we o2 r2 s'.fl ∧ Keeps no wd we) := ⟨hn2, fv_of hf2, ke1⟩; have KE : Hid (Keeps no wc we) := KD.out.trans ke1; clear hn2 hf2 hl2 ke1)
                    | (go_at_call 16; refine (nFlight_any wb p _ s' (i + 1) (HT.out _ KB.out).2.2.n (HT.out _ KB.out).2.2.wf hi1).mono ?_; rintro e wd ⟨o1, n1, c1', r1, rfl, hn1, hf1, hl1, kd1⟩; have H1 : Hid (n1 = s'.fl.length ∧ Fv FE wd o1 r1 s'.fl) := ⟨hn1, fv_of hf1⟩; have KD : Hid (Keeps no wc wd) := KB.out.trans kd1; clear hn1 hf1 hl1 kd1)
                    | (go_at_call 20; refine (dLen_any wa q _ s' (HT.out _ KA.out).2.2.d).mono ?_; rintro e wb ⟨rfl, kb⟩; have KB : Hid (Keeps no wc wb) := KA.out.trans kb; clear kb)
                    | (go_at_call 11; refine (nLen_any wc.drew p _ s' (HT.out _ ((Keeps.refl _ _).drew)).2.2.n).mono ?_; rintro e wa ⟨rfl, ka⟩; have KA : Hid (Keeps no wc wa) := ((Keeps.refl no wc).drew).trans ka; clear ka)))
                  all_goals
                    go_wp2_with fail
                    go_meet
                    exact ⟨rfl, KF⟩
                case rest =>
                  obtain ⟨rfl, HX⟩ := hcut
                  rename World => wz
                  have HNX : Hid (∃ v u F G, Qd w1 wz N (N + 1) v u F G (i + 1)) := ⟨v, u, F', G', HQ2.out.keepsN HX.out⟩
                  clear HX HQ2 HT c1 c2
                  go_wp2_with fail
                  go_roundw
                  case rel => exact ⟨i + 1, by omega, by go_num, HNX⟩
                  case measure => simp [intOf]; omega
          · rw [h2] at hand
            clear h2
            obtain ⟨c1, c2, -, -⟩ := hq.cellsN (k := 1) (by omega)
            rcases hq.sd 1 (by omega) with ⟨hv, hu, -, -⟩ | ⟨p, q, s, hv, hu, ht⟩
            · rw [hv] at c1
              have HNX : Hid (∃ v u F G, Qd w1 wr N (N + 1) v u F G (i + 1)) := ⟨v, u, F, G, hq.more (by omega)⟩
              clear hq hv hu HR HPB c2 HKR
              go_wp2_with fail
              go_roundw
              case rel => exact ⟨i + 1, by omega, by go_num, HNX⟩
              case measure => simp [intOf]; omega
            · rw [hv] at c1
              rw [hu] at c2
              have HQ : Hid (Qd w1 wr.drew N (N + 1) v u F G i ∧ Two wr.drew p q (F 1) (G 1) s i ∧ v 1 = .pointer (some ⟨p, 0, none⟩) ∧ u 1 = .pointer (some ⟨q, 0, none⟩)) := ⟨hq.keepsN ((Keeps.refl _ _).drew), ht.keepsN ((Keeps.refl _ _).drew), hv, hu⟩
              have HPL : Hid (Calls Try.prog 19 #[.pointer (some ⟨p, 0, none⟩), .pointer (some ⟨q, 0, none⟩), .agg #[.int .i64 kd, .int .i64 wh, .int .i64 A, .int .i64 B, .slice bo bn bc]] wr.drew (PlTo wr.drew p q (F 1) (G 1) (i + 1))) := by
                obtain ⟨⟨bs, hbn, hbs, hbl⟩, hA, hB⟩ := HPB.out
                refine plays_any wr.drew p q (F 1) (G 1) s i kd wh A B bo bn bc bs (ht.keepsN ((Keeps.refl _ _).drew)) (by omega) hbn hbl (hbs.keepsN (HKR.out.drew)) (fun hb x hx => ?_) hA hB
                have h1 := hbs.lt okB hb x hx
                have h3 := HB1.out.2.size
                exact ⟨fun hf => by have := (hq.out 1 (by omega) x (.inl hf)).2.2; omega, fun hf => by have := (hq.out 1 (by omega) x (.inr hf)).2.2; omega⟩
              clear hq hv hu ht HR HPB HKR
              go_upto_region 19 with fail
              go_cut [14] from 79 to 89 (fun t14 wx => t14 = .bool true ∧ Hid (∃ s' F' G', Qd w1 wx N (N + 1) v u F' G' (i + 1) ∧ Two wx p q (F' 1) (G' 1) s' (i + 1)))
              case first =>
                as_aux_lemma =>
                --R19
                have HPS : Hid (∀ X, (∃ s' F' G', Qd w1 X N (N + 1) v u F' G' (i + 1) ∧ Two X p q (F' 1) (G' 1) s' (i + 1)) → X.cell? ⟨N, 1, none⟩ = some (.pointer (some ⟨p, 0, none⟩)) ∧ X.cell? ⟨N + 1, 1, none⟩ = some (.pointer (some ⟨q, 0, none⟩)) ∧ X.cell? ⟨b1, off1 + i * 5, none⟩ = some (.int .i64 kd) ∧ X.cell? ⟨b1, off1 + i * 5 + 1, none⟩ = some (.int .i64 wh) ∧ X.cell? ⟨b1, off1 + i * 5 + 2, none⟩ = some (.int .i64 A) ∧ X.cell? ⟨b1, off1 + i * 5 + 3, none⟩ = some (.int .i64 B) ∧ X.cell? ⟨b1, off1 + i * 5 + 4, none⟩ = some (.slice bo bn bc)) := by
                  rintro X ⟨s', F', G', g1, g2⟩
                  obtain ⟨y1, y2, -, -⟩ := g1.cellsN (k := 1) (by omega)
                  rw [HQ.out.2.2.1] at y1
                  rw [HQ.out.2.2.2] at y2
                  exact ⟨y1, y2, HSC.out X (HB1.out.2.trans g1.kp)⟩
                have HPW : Hid (∀ X, Keeps no wr X → X.cell? ⟨N, 1, none⟩ = some (.pointer (some ⟨p, 0, none⟩)) ∧ X.cell? ⟨N + 1, 1, none⟩ = some (.pointer (some ⟨q, 0, none⟩)) ∧ X.cell? ⟨b1, off1 + i * 5, none⟩ = some (.int .i64 kd) ∧ X.cell? ⟨b1, off1 + i * 5 + 1, none⟩ = some (.int .i64 wh) ∧ X.cell? ⟨b1, off1 + i * 5 + 2, none⟩ = some (.int .i64 A) ∧ X.cell? ⟨b1, off1 + i * 5 + 3, none⟩ = some (.int .i64 B) ∧ X.cell? ⟨b1, off1 + i * 5 + 4, none⟩ = some (.slice bo bn bc)) := fun X k => ⟨k.cellN c1, k.cellN c2, k.cellN a0, k.cellN a1, k.cellN a2, k.cellN a3, k.cellN a4⟩
                go_region_held3 (fun X => X.cell? ⟨N, 1, none⟩ = some (.pointer (some ⟨p, 0, none⟩)) ∧ X.cell? ⟨N + 1, 1, none⟩ = some (.pointer (some ⟨q, 0, none⟩)) ∧ X.cell? ⟨b1, off1 + i * 5, none⟩ = some (.int .i64 kd) ∧ X.cell? ⟨b1, off1 + i * 5 + 1, none⟩ = some (.int .i64 wh) ∧ X.cell? ⟨b1, off1 + i * 5 + 2, none⟩ = some (.int .i64 A) ∧ X.cell? ⟨b1, off1 + i * 5 + 3, none⟩ = some (.int .i64 B) ∧ X.cell? ⟨b1, off1 + i * 5 + 4, none⟩ = some (.slice bo bn bc)) (first | exact HPW.out _ ((Keeps.refl no wr).drew) | exact HPW.out _ (Keeps.refl no wr) | exact HPS.out _ HZ.out) ((go_at_call 19; refine HPL.out.mono ?_; rintro e w3 ⟨rfl, hpl⟩; have HZ : Hid (∃ s' F' G', Qd w1 w3 N (N + 1) v u F' G' (i + 1) ∧ Two w3 p q (F' 1) (G' 1) s' (i + 1)) := (by obtain ⟨s', hpl⟩ := hpl; obtain ⟨F', G', g1, g2⟩ := HQ.out.1.step (by omega) (by omega) HQ.out.2.2.1 HQ.out.2.2.2 hpl; exact ⟨s', F', G', g1, g2⟩); clear hpl))
                all_goals
                  go_wp2_with fail
                  go_meet
                  exact ⟨rfl, HZ⟩
              case rest =>
                obtain ⟨rfl, HX⟩ := hcut
                obtain ⟨s', F', G', hq, ht⟩ := HX.out
                have HVU : Hid (v 1 = .pointer (some ⟨p, 0, none⟩) ∧ u 1 = .pointer (some ⟨q, 0, none⟩)) := ⟨HQ.out.2.2.1, HQ.out.2.2.2⟩
                have HT : Hid (∀ X, Keeps no wc X → X.cell? ⟨N, 1, none⟩ = some (.pointer (some ⟨p, 0, none⟩)) ∧ X.cell? ⟨N + 1, 1, none⟩ = some (.pointer (some ⟨q, 0, none⟩)) ∧ Two X p q (F' 1) (G' 1) s' (i + 1)) := by
                  intro X k
                  obtain ⟨z1, z2, -, -⟩ := (hq.keepsN k).cellsN (k := 1) (by omega)
                  rw [HVU.out.1] at z1
                  rw [HVU.out.2] at z2
                  exact ⟨z1, z2, ht.keepsN k⟩
                have HQ2 : Hid (Qd w1 wc N (N + 1) v u F' G' (i + 1)) := hq
                have hi1 : i + 1 ≤ 2600000000000 := by omega
                clear c1 c2 hq ht HX HQ HPL HVU
                have c1 := (HT.out _ (Keeps.refl _ _)).1
                have c2 := (HT.out _ (Keeps.refl _ _)).2.1
                go_upto_region 20 with fail
                go_cut [114] from 90 to 113 (fun t114 wx => t114 = .bool false ∧ Hid (Keeps no wc wx))
                case first =>
                  as_aux_lemma =>
                  --R20
                  have HPW : Hid (∀ X, Keeps no wc X → X.cell? ⟨N, 1, none⟩ = some (.pointer (some ⟨p, 0, none⟩)) ∧ X.cell? ⟨N + 1, 1, none⟩ = some (.pointer (some ⟨q, 0, none⟩))) := fun X k => ⟨(HT.out X k).1, (HT.out X k).2.1⟩
                  go_region_held3 (fun X => X.cell? ⟨N, 1, none⟩ = some (.pointer (some ⟨p, 0, none⟩)) ∧ X.cell? ⟨N + 1, 1, none⟩ = some (.pointer (some ⟨q, 0, none⟩))) (first | exact HPW.out _ ((Keeps.refl no wc).drew) | exact HPW.out _ (Keeps.refl no wc) | exact HPW.out _ KF.out | exact HPW.out _ KE.out | exact HPW.out _ KD.out | exact HPW.out _ KB.out | exact HPW.out _ KA.out) ((first
                    | (go_at_call 21; refine (sameFlight_yes we o1 n1 c1' r1 o2 n2 c2' r2 s'.fl H1.out.1 H2.out.1 (by have hh1 := (HT.out _ KE.out).2.2.wf.len; have hh2 := (HT.out _ KE.out).2.2.wf.num; omega) (H1.out.2.keepsN H2.out.2.2) H2.out.2.1).mono ?_; rintro e wf ⟨rfl, kf⟩; have KF : Hid (Keeps no wc wf) := KE.out.trans kf; clear kf)
                    | (go_at_call 22; refine (dFlight_any wd q _ s' (i + 1) (HT.out _ KD.out).2.2.d (HT.out _ KD.out).2.2.wf hi1).mono ?_; rintro e we ⟨o2, n2, c2', r2, rfl, hn2, hf2, hl2, ke1⟩; have H2 : Hid (n2 = s'.fl.length ∧ Fv DE we o2 r2 s'.fl ∧ Keeps no wd we) := ⟨hn2, fv_of hf2, ke1⟩; have KE : Hid (Keeps no wc we) := KD.out.trans ke1; clear hn2 hf2 hl2 ke1)
                    | (go_at_call 16; refine (nFlight_any wb p _ s' (i + 1) (HT.out _ KB.out).2.2.n (HT.out _ KB.out).2.2.wf hi1).mono ?_; rintro e wd ⟨o1, n1, c1', r1, rfl, hn1, hf1, hl1, kd1⟩; have H1 : Hid (n1 = s'.fl.length ∧ Fv FE wd o1 r1 s'.fl) := ⟨hn1, fv_of hf1⟩; have KD : Hid (Keeps no wc wd) := KB.out.trans kd1; clear hn1 hf1 hl1 kd1)
                    | (go_at_call 20; refine (dLen_any wa q _ s' (HT.out _ KA.out).2.2.d).mono ?_; rintro e wb ⟨rfl, kb⟩; have KB : Hid (Keeps no wc wb) := KA.out.trans kb; clear kb)
                    | (go_at_call 11; refine (nLen_any wc.drew p _ s' (HT.out _ ((Keeps.refl _ _).drew)).2.2.n).mono ?_; rintro e wa ⟨rfl, ka⟩; have KA : Hid (Keeps no wc wa) := ((Keeps.refl no wc).drew).trans ka; clear ka)))
                  all_goals
                    go_wp2_with fail
                    go_meet
                    exact ⟨rfl, KF⟩
                case rest =>
                  obtain ⟨rfl, HX⟩ := hcut
                  rename World => wz
                  have HNX : Hid (∃ v u F G, Qd w1 wz N (N + 1) v u F G (i + 1)) := ⟨v, u, F', G', HQ2.out.keepsN HX.out⟩
                  clear HX HQ2 HT c1 c2
                  go_wp2_with fail
                  go_roundw
                  case rel => exact ⟨i + 1, by omega, by go_num, HNX⟩
                  case measure => simp [intOf]; omega
        · have hlt' : ¬ (i : Int) < ns := by omega
          have HKF : Hid (Keeps no w wr) := by
            obtain ⟨v, u, F, G, hq⟩ := HR.out
            exact HB1.out.2.trans hq.kp
          clear HR
          go_wp2_with fail
          go_ret
          exact ⟨rfl, HKF.out⟩
end Go.Proofs.Ytdbejihkliafiaa
