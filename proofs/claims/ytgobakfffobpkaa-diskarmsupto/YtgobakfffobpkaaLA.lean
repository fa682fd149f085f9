/- DiskArms' walk. -/
import Derived.Test.YtgobakfffobpkaaT7
import Derived.Deep.RegionHeld3
namespace Go.Proofs.Ytgobakfffobpkaa
open Go.RowKit Dk
set_option linter.unusedVariables false
set_option linter.unusedSimpArgs false

theorem i64_and31 (n : Int) : bits .and .i64 n 31 = n % 32 := by
  have h1 : (BitVec.ofInt 64 31).toNat = 2 ^ 5 - 1 := by decide
  have key : (BitVec.ofInt 64 n &&& BitVec.ofInt 64 31).toNat = (n % ((2 ^ 64 : Nat) : Int)).toNat % 2 ^ 5 := by
    rw [BitVec.toNat_and, BitVec.toNat_ofInt, h1, Nat.and_two_pow_sub_one_eq_mod]
  show IntKind.i64.wrap ((BitVec.ofInt 64 n &&& BitVec.ofInt 64 31).toNat : Nat) = n % 32
  rw [key, IntKind.wrap_i64]
  omega

set_option maxRecDepth 100000 in
set_option maxHeartbeats 0 in
theorem diskArms_any (w : World) (o1 : Option Addr) (c1 : Nat) (ps : List OpV) (o2 : Option Addr) (c2 : Nat) (qs : List OpV) (n keep : Int) (h1 : Script w o1 ps) (h2 : Script w o2 qs) (hn : i64 n) (hk : i64 keep) :
    Calls Try.prog 5 #[.slice o1 ps.length c1, .slice o2 qs.length c2, .int .i64 n, .int .i64 keep] w fun e w' => e = .returned (.bool true) ∧ Keeps no w w' := by
  obtain ⟨N1, hN1⟩ : ∃ N1, N1 = ps.length := ⟨_, rfl⟩
  obtain ⟨N2, hN2⟩ : ∃ N2, N2 = qs.length := ⟨_, rfl⟩
  rw [← hN1, ← hN2]
  have HN1 : Hid (N1 = ps.length) := hN1
  have HN2 : Hid (N2 = qs.length) := hN2
  have l1 : N1 ≤ 1048576 := by have := h1.len; omega
  have l2 : N2 ≤ 1048576 := by have := h2.len; omega
  have H1 : Hid (Script w o1 ps) := h1
  have H2 : Hid (Script w o2 qs) := h2
  have HKI : Hid (i64 keep) := hk
  have hand := i64_and31 n
  obtain ⟨M, hM⟩ : ∃ M, M = n % 32 := ⟨_, rfl⟩
  rw [← hM] at hand
  have m1 : 0 ≤ M := by omega
  have m2 : M ≤ 31 := by omega
  have HMI : Hid (i64 M) := (show i64 M by unfold i64; omega)
  clear hN1 hN2 h1 h2 hM hn hk
  go_enter Try.func5, Try.ntmps5
  go_wp2_with fail
  refine (alive_any w).mono ?_
  rintro e w1 ⟨rfl, hk1⟩
  go_wp2_with fail
  refine (new_any w1).mono ?_
  rintro e w2 ⟨p, rfl, h2, hk2⟩
  go_wp2_with fail
  refine (new_any w2).mono ?_
  rintro e w3 ⟨q, rfl, h3, hk3⟩
  have D0 := duo_new hk1 h2 hk2 h3 hk3
  obtain ⟨F, G, D3⟩ : ∃ F G, Hid (Duo w w3 p Dk.new q Dk.new F G) := ⟨_, _, D0⟩
  clear hk1 h2 hk2 h3 hk3 D0
  go_wp2_with fail
  go_loopw [11] (fun i wr => ∃ (k : Nat) (F G : Nat → Prop) (s : St), k ≤ N1 ∧ i = .int .i64 k ∧ Hid (Duo w wr p s q s F G ∧ Room (k * 4194304) s)) (fun i _ => N1 - (intOf i).toNat)
  case atStart => exact ⟨0, F, G, Dk.new, by omega, rfl, ⟨D3.out, room_new _⟩⟩
  case round =>
    clear D3 F G
    obtain ⟨k, F, G, s, hk, rfl, HD⟩ := hrel
    by_cases hlt : k < N1
    · have hks : k < ps.length := by have := HN1.out; omega
      obtain ⟨b, off, rfl, hC⟩ := H1.out.at hks
      have hok := H1.out.ok _ (getD_mem ps k op0 hks)
      obtain ⟨o, ho⟩ : ∃ o, o = ps.getD k op0 := ⟨_, rfl⟩
      rw [← ho] at hC hok
      obtain ⟨nb, hnb⟩ : ∃ nb, nb = o.bs.length := ⟨_, rfl⟩
      rw [← hnb] at hC
      have HOC : Hid (o.cells = #[.int .i64 o.kind, .int .i64 o.who, .string o.nm, .string o.tn, .slice o.ob nb o.cb, .int .i64 o.N, .int .i64 o.K]) := (show _ = _ by rw [OpV.cells, hnb])
      have HOK : Hid (o.ok w) := hok
      have HC0 : Hid (C7 w b (off + k * 7) o nb) := hC
      have HM : Hid (k * 4194304 ≤ 70368744177664) := (show _ ≤ _ by omega)
      obtain ⟨e0, e1, e2, e3, e4, e5, e6⟩ := hC.keepsN HD.out.1.kept
      clear hC hok ho hnb hks
      go_wp2_with fail
      go_region_held3 (fun w' => w'.cell? ⟨b, off + k * 7, none⟩ = some (.int .i64 o.kind) ∧ w'.cell? ⟨b, off + k * 7 + 1, none⟩ = some (.int .i64 o.who) ∧ w'.cell? ⟨b, off + k * 7 + 2, none⟩ = some (.string o.nm) ∧ w'.cell? ⟨b, off + k * 7 + 3, none⟩ = some (.string o.tn) ∧ w'.cell? ⟨b, off + k * 7 + 4, none⟩ = some (.slice o.ob nb o.cb) ∧ w'.cell? ⟨b, off + k * 7 + 5, none⟩ = some (.int .i64 o.N) ∧ w'.cell? ⟨b, off + k * 7 + 6, none⟩ = some (.int .i64 o.K)) (go_keep) ((first | (go_at_call_of 24 (Value.pointer (some (Addr.mk p 0 none))); rw [← HOC.out]; refine (does_any _ p F s o (HD.out.1.a.keepsN (Keeps.refl no wr).drew) (HOK.out.keepsN (HD.out.1.kept.trans (Keeps.refl no wr).drew)) _ HD.out.2 HM.out).mono ?_; rintro e w5 ⟨rfl, h5, hk5⟩; have D5 : Hid (Duo w w5 p (doesOn o s).1 q s (grow F wr.drew w5) G) := (HD.out.1.beside (Keeps.refl no wr).drew).stepA h5 hk5; obtain ⟨x0, x1, x2, x3, x4, x5, x6⟩ := HC0.out.keepsN D5.out.kept; clear h5 hk5) | (go_at_call_of 24 (Value.pointer (some (Addr.mk q 0 none))); refine (does_any _ q G s o D5.out.b (HOK.out.keepsN D5.out.kept) _ HD.out.2 HM.out).mono ?_; rintro e w6 ⟨rfl, h6, hk6⟩; have D6 : Hid (Duo w w6 p (doesOn o s).1 q (doesOn o s).1 (grow F wr.drew w5) (grow G w5 w6)) := D5.out.stepB h6 hk6; obtain ⟨y0, y1, y2, y3, y4, y5, y6⟩ := HC0.out.keepsN D6.out.kept; clear h6 hk6)))
      clear x0 x1 x2 x3 x4 x5 x6 y0 y1 y2 y3 y4 y5 y6 e0 e1 e2 e3 e4 e5 e6 D5
      go_wp2_with fail
      go_roundw
      case rel => exact ⟨k + 1, _, _, _, by omega, by go_num, ⟨D6.out, doesOn_room' HD.out.2 HOK.out.len⟩⟩
      case measure => simp [intOf]; omega
    · have hkn : k = N1 := by omega
      subst hkn
      clear hlt hk
      go_wp2_with fail
      refine (up_any _ p F s HD.out.1.a).mono ?_
      rintro e w4 ⟨rfl, h4, hk4⟩
      have D4 : Hid (Duo w w4 p (up s) q s F G) := HD.out.1.sameA h4 hk4
      clear h4 hk4
      go_wp2_with fail
      refine (up_any _ q G s D4.out.b).mono ?_
      rintro e w5 ⟨rfl, h5, hk5⟩
      have D5 : Hid (Duo w w5 p (up s) q (up s) F G) := D4.out.sameB h5 hk5
      clear h5 hk5 D4
      go_wp2_with fail
      refine (arm_any _ p F (up s) D5.out.a M keep HMI.out HKI.out).mono ?_
      rintro e w6 ⟨rfl, h6, hk6⟩
      have D6 : Hid (Duo w w6 p (arm M keep (up s)) q (up s) F G) := D5.out.sameA h6 hk6
      have HR : Hid (Room (k * 4194304) (arm M keep (up s)) ∧ Room (k * 4194304) (up s)) := ⟨HD.out.2, HD.out.2⟩
      have HA : Hid (Arms (arm M keep (up s)) (up s) M keep) := arms_start m1
      clear h6 hk6 D5
      go_wp2_with fail
      go_loopw [12, 13] (fun l i wr => ∃ (j : Nat) (L : Int) (F G : Nat → Prop) (s t : St), j ≤ N2 ∧ i = .int .i64 j ∧ l = .int .i64 L ∧ L ≤ 31 ∧ -(j : Int) ≤ L ∧ Hid (Duo w wr p s q t F G ∧ Arms s t L keep ∧ Room ((k + j) * 4194304) s ∧ Room ((k + j) * 4194304) t)) (fun _ i _ => N2 - (intOf i).toNat)
      case atStart => exact ⟨0, M, F, G, _, _, by omega, rfl, rfl, by omega, by omega, ⟨D6.out, HA.out, HR.out.1, HR.out.2⟩⟩
      case round =>
        clear D6 HA HR HD F G s
        obtain ⟨j, L, F, G, s, t, hj, rfl, rfl, hL1, hL2, HD⟩ := hrel
        by_cases hlt : j < N2
        · have hks : j < qs.length := by have := HN2.out; omega
          obtain ⟨b, off, rfl, hC⟩ := H2.out.at hks
          have hok := H2.out.ok _ (getD_mem qs j op0 hks)
          obtain ⟨o, ho⟩ : ∃ o, o = qs.getD j op0 := ⟨_, rfl⟩
          rw [← ho] at hC hok
          obtain ⟨nb, hnb⟩ : ∃ nb, nb = o.bs.length := ⟨_, rfl⟩
          rw [← hnb] at hC
          have HOC : Hid (o.cells = #[.int .i64 o.kind, .int .i64 o.who, .string o.nm, .string o.tn, .slice o.ob nb o.cb, .int .i64 o.N, .int .i64 o.K]) := (show _ = _ by rw [OpV.cells, hnb])
          have HOK : Hid (o.ok w) := hok
          have HC0 : Hid (C7 w b (off + j * 7) o nb) := hC
          have HM : Hid ((k + j) * 4194304 ≤ 70368744177664) := (show _ ≤ _ by omega)
          have ok1 := hok.k.1
          have ok2 := hok.k.2
          obtain ⟨e0, e1, e2, e3, e4, e5, e6⟩ := hC.keepsN HD.out.1.kept
          clear hC hok ho hnb hks
          have HBW : Hid ((wr.alloc (.cells #[.int .i64 o.kind, .int .i64 o.who, .string o.nm, .string o.tn, .slice o.ob nb o.cb, .int .i64 o.N, .int .i64 o.K] 45)).heap[wr.heap.size]? = some (.cells #[.int .i64 o.kind, .int .i64 o.who, .string o.nm, .string o.tn, .slice o.ob nb o.cb, .int .i64 o.N, .int .i64 o.K] 45 (0, 0))) := blk_new wr _
          have HDW : Hid (Duo w (wr.alloc (.cells #[.int .i64 o.kind, .int .i64 o.who, .string o.nm, .string o.tn, .slice o.ob nb o.cb, .int .i64 o.N, .int .i64 o.K] 45)) p s q t F G) := HD.out.1.beside (keeps_alloc wr _)
          have HNF : Hid (∀ i, (F i ∨ G i) → i < wr.heap.size) := (show _ from fun i hi => by rcases hi with h | h; exact HD.out.1.a.lt i h; exact HD.out.1.b.lt i h)
          obtain ⟨V, hV⟩ : ∃ V, V = wr.alloc (.cells #[.int .i64 o.kind, .int .i64 o.who, .string o.nm, .string o.tn, .slice o.ob nb o.cb, .int .i64 o.N, .int .i64 o.K] 45) := ⟨_, rfl⟩
          obtain ⟨B, hB⟩ : ∃ B, B = wr.heap.size := ⟨_, rfl⟩
          rw [← hV, ← hB] at HBW
          rw [← hV] at HDW
          rw [← hB] at HNF
          by_cases hk12 : o.kind = 12
          · rw [hk12] at e0
            clear ok1 ok2
            go_wp2_with fail
            go_roundw
            case rel => exact ⟨j + 1, L, F, G, s, t, by omega, by go_num, rfl, by omega, by omega, ⟨HD.out.1.beside (keeps_alloc wr _), HD.out.2.1, HD.out.2.2.1.mono (by omega), HD.out.2.2.2.mono (by omega)⟩⟩
            case measure => simp [intOf]; omega
          by_cases hk9 : o.kind = 9
          · rw [hk9] at e0
            clear ok1 ok2
            go_wp2_with fail
            go_roundw
            case rel => exact ⟨j + 1, L, F, G, s, t, by omega, by go_num, rfl, by omega, by omega, ⟨HD.out.1.beside (keeps_alloc wr _), HD.out.2.1, HD.out.2.2.1.mono (by omega), HD.out.2.2.2.mono (by omega)⟩⟩
            case measure => simp [intOf]; omega
          by_cases hk10 : o.kind = 10
          · rw [hk10] at e0
            clear ok1 ok2
            go_wp2_with fail
            go_roundw
            case rel => exact ⟨j + 1, L, F, G, s, t, by omega, by go_num, rfl, by omega, by omega, ⟨HD.out.1.beside (keeps_alloc wr _), HD.out.2.1, HD.out.2.2.1.mono (by omega), HD.out.2.2.2.mono (by omega)⟩⟩
            case measure => simp [intOf]; omega
          have t12 : (o.kind == 12) = false := by simpa using hk12
          have t9 : (o.kind == 9) = false := by simpa using hk9
          have t10 : (o.kind == 10) = false := by simpa using hk10
          by_cases hcn : 1 ≤ o.kind ∧ o.kind ≤ 8
          · obtain ⟨hc1, hc8⟩ := hcn
            have HA2' := HD.out.2.1.counted hc1 hc8
            by_cases hL0 : L = 0
            · rw [if_pos hL0] at HA2'
              have HA2 : Hid _ := HA2'
              subst hL0
              clear HA2'
              go_wp2_with fail
              rw [← hV, ← hB]
              clear hV hB e0 e1 e2 e3 e4 e5 e6
              refine (crash_any _ q G t keep HDW.out.b HKI.out).mono ?_
              rintro e Z ⟨rfl, h5, hk5⟩
              have HDZ : Hid (Duo w Z p s q (crash keep t) F G) := HDW.out.sameB h5 hk5
              have HBZ : Hid (Z.heap[B]? = some (.cells #[.int .i64 o.kind, .int .i64 o.who, .string o.nm, .string o.tn, .slice o.ob nb o.cb, .int .i64 o.N, .int .i64 o.K] 45 (0, 0))) := hk5.at HBW.out (fun h => by have := HNF.out B (.inr h); omega)
              have HRZ : Hid (Room ((k + j) * 4194304) s ∧ Room ((k + j) * 4194304) (crash keep t)) := ⟨HD.out.2.2.1, HD.out.2.2.2.crash⟩
              clear h5 hk5 HBW HDW
              obtain ⟨z0, z1, z2, z3, z4, z5, z6⟩ : Z.cell? ⟨B, 0, none⟩ = some (.int .i64 o.kind) ∧ Z.cell? ⟨B, 1, none⟩ = some (.int .i64 o.who) ∧ Z.cell? ⟨B, 2, none⟩ = some (.string o.nm) ∧ Z.cell? ⟨B, 3, none⟩ = some (.string o.tn) ∧ Z.cell? ⟨B, 4, none⟩ = some (.slice o.ob nb o.cb) ∧ Z.cell? ⟨B, 5, none⟩ = some (.int .i64 o.N) ∧ Z.cell? ⟨B, 6, none⟩ = some (.int .i64 o.K) := ⟨cell_of_blk HBZ.out 0, cell_of_blk HBZ.out 1, cell_of_blk HBZ.out 2, cell_of_blk HBZ.out 3, cell_of_blk HBZ.out 4, cell_of_blk HBZ.out 5, cell_of_blk HBZ.out 6⟩
              go_wp2_with fail
              go_region_held3 (fun w' => w'.cell? ⟨B, 0, none⟩ = some (.int .i64 o.kind) ∧ w'.cell? ⟨B, 1, none⟩ = some (.int .i64 o.who) ∧ w'.cell? ⟨B, 2, none⟩ = some (.string o.nm) ∧ w'.cell? ⟨B, 3, none⟩ = some (.string o.tn) ∧ w'.cell? ⟨B, 4, none⟩ = some (.slice o.ob nb o.cb) ∧ w'.cell? ⟨B, 5, none⟩ = some (.int .i64 o.N) ∧ w'.cell? ⟨B, 6, none⟩ = some (.int .i64 o.K)) (go_keep) ((first | (go_at_call_of 24 (Value.pointer (some (Addr.mk p 0 none))); rw [← HOC.out]; refine (does_any _ p F s o (HDZ.out.a.keepsN (Keeps.refl no Z).drew) (HOK.out.keepsN (HDZ.out.kept.trans (Keeps.refl no Z).drew)) _ HRZ.out.1 HM.out).mono ?_; rintro e w5 ⟨rfl, h5, hk5⟩; have D5 : Hid (Duo w w5 p (doesOn o s).1 q (crash keep t) (grow F Z.drew w5) G) := (HDZ.out.beside (Keeps.refl no Z).drew).stepA h5 hk5; have B5 := hk5.at (show Z.drew.heap[B]? = _ from HBZ.out) (fun h => by have := HNF.out B (.inl h); omega); have x0 := cell_of_blk B5 0; have x1 := cell_of_blk B5 1; have x2 := cell_of_blk B5 2; have x3 := cell_of_blk B5 3; have x4 := cell_of_blk B5 4; have x5 := cell_of_blk B5 5; have x6 := cell_of_blk B5 6; have HB5 : Hid (_ = _) := B5; clear h5 hk5 B5) | (go_at_call_of 24 (Value.pointer (some (Addr.mk q 0 none))); refine (does_any _ q G (crash keep t) o D5.out.b (HOK.out.keepsN D5.out.kept) _ HRZ.out.2 HM.out).mono ?_; rintro e w6 ⟨rfl, h6, hk6⟩; have D6 : Hid (Duo w w6 p (doesOn o s).1 q (doesOn o (crash keep t)).1 (grow F Z.drew w5) (grow G w5 w6)) := D5.out.stepB h6 hk6; have B6 := hk6.at (show w5.heap[B]? = _ from HB5.out) (fun h => by have := HNF.out B (.inr h); omega); have y0 := cell_of_blk B6 0; have y1 := cell_of_blk B6 1; have y2 := cell_of_blk B6 2; have y3 := cell_of_blk B6 3; have y4 := cell_of_blk B6 4; have y5 := cell_of_blk B6 5; have y6 := cell_of_blk B6 6; rw [← HA2.out.1]; clear h6 hk6 B6) | (go_at_call_of 26 (Value.pointer (some (Addr.mk p 0 none))); refine (down_any _ p _ _ D6.out.a).mono ?_; rintro e w7 ⟨rfl, hw⟩; subst w7) | (go_at_call_of 26 (Value.pointer (some (Addr.mk q 0 none))); refine (down_any _ q _ _ D6.out.b).mono ?_; rintro e w7 ⟨rfl, hw⟩; subst w7; rw [← HA2.out.2.offs])))
              clear x0 x1 x2 x3 x4 x5 x6 y0 y1 y2 y3 y4 y5 y6 z0 z1 z2 z3 z4 z5 z6 D5 HB5
              go_wp2_with fail
              go_roundw
              case rel => exact ⟨j + 1, 0 - 1, _, _, _, _, by omega, by go_num, rfl, by omega, by omega, ⟨D6.out, HA2.out.2, (doesOn_room' HRZ.out.1 HOK.out.len).mono (by omega), (doesOn_room' HRZ.out.2 HOK.out.len).mono (by omega)⟩⟩
              case measure => simp [intOf]; omega
            · rw [if_neg hL0] at HA2'
              have HA2 : Hid _ := HA2'
              have hL0' : ((L : Int) == 0) = false := by simpa using hL0
              clear HA2'
              go_wp2_with fail
              rw [← hV, ← hB]
              clear hV hB e0 e1 e2 e3 e4 e5 e6
              have HDZ : Hid (Duo w V p s q t F G) := HDW.out
              have HBZ : Hid (V.heap[B]? = some (.cells #[.int .i64 o.kind, .int .i64 o.who, .string o.nm, .string o.tn, .slice o.ob nb o.cb, .int .i64 o.N, .int .i64 o.K] 45 (0, 0))) := HBW.out
              have HRZ : Hid (Room ((k + j) * 4194304) s ∧ Room ((k + j) * 4194304) t) := HD.out.2.2
              clear HBW HDW
              obtain ⟨z0, z1, z2, z3, z4, z5, z6⟩ : V.cell? ⟨B, 0, none⟩ = some (.int .i64 o.kind) ∧ V.cell? ⟨B, 1, none⟩ = some (.int .i64 o.who) ∧ V.cell? ⟨B, 2, none⟩ = some (.string o.nm) ∧ V.cell? ⟨B, 3, none⟩ = some (.string o.tn) ∧ V.cell? ⟨B, 4, none⟩ = some (.slice o.ob nb o.cb) ∧ V.cell? ⟨B, 5, none⟩ = some (.int .i64 o.N) ∧ V.cell? ⟨B, 6, none⟩ = some (.int .i64 o.K) := ⟨cell_of_blk HBZ.out 0, cell_of_blk HBZ.out 1, cell_of_blk HBZ.out 2, cell_of_blk HBZ.out 3, cell_of_blk HBZ.out 4, cell_of_blk HBZ.out 5, cell_of_blk HBZ.out 6⟩
              go_wp2_with fail
              go_region_held3 (fun w' => w'.cell? ⟨B, 0, none⟩ = some (.int .i64 o.kind) ∧ w'.cell? ⟨B, 1, none⟩ = some (.int .i64 o.who) ∧ w'.cell? ⟨B, 2, none⟩ = some (.string o.nm) ∧ w'.cell? ⟨B, 3, none⟩ = some (.string o.tn) ∧ w'.cell? ⟨B, 4, none⟩ = some (.slice o.ob nb o.cb) ∧ w'.cell? ⟨B, 5, none⟩ = some (.int .i64 o.N) ∧ w'.cell? ⟨B, 6, none⟩ = some (.int .i64 o.K)) (go_keep) ((first | (go_at_call_of 24 (Value.pointer (some (Addr.mk p 0 none))); rw [← HOC.out]; refine (does_any _ p F s o (HDZ.out.a.keepsN (Keeps.refl no V).drew) (HOK.out.keepsN (HDZ.out.kept.trans (Keeps.refl no V).drew)) _ HRZ.out.1 HM.out).mono ?_; rintro e w5 ⟨rfl, h5, hk5⟩; have D5 : Hid (Duo w w5 p (doesOn o s).1 q (t) (grow F V.drew w5) G) := (HDZ.out.beside (Keeps.refl no V).drew).stepA h5 hk5; have B5 := hk5.at (show V.drew.heap[B]? = _ from HBZ.out) (fun h => by have := HNF.out B (.inl h); omega); have x0 := cell_of_blk B5 0; have x1 := cell_of_blk B5 1; have x2 := cell_of_blk B5 2; have x3 := cell_of_blk B5 3; have x4 := cell_of_blk B5 4; have x5 := cell_of_blk B5 5; have x6 := cell_of_blk B5 6; have HB5 : Hid (_ = _) := B5; clear h5 hk5 B5) | (go_at_call_of 24 (Value.pointer (some (Addr.mk q 0 none))); refine (does_any _ q G (t) o D5.out.b (HOK.out.keepsN D5.out.kept) _ HRZ.out.2 HM.out).mono ?_; rintro e w6 ⟨rfl, h6, hk6⟩; have D6 : Hid (Duo w w6 p (doesOn o s).1 q (doesOn o (t)).1 (grow F V.drew w5) (grow G w5 w6)) := D5.out.stepB h6 hk6; have B6 := hk6.at (show w5.heap[B]? = _ from HB5.out) (fun h => by have := HNF.out B (.inr h); omega); have y0 := cell_of_blk B6 0; have y1 := cell_of_blk B6 1; have y2 := cell_of_blk B6 2; have y3 := cell_of_blk B6 3; have y4 := cell_of_blk B6 4; have y5 := cell_of_blk B6 5; have y6 := cell_of_blk B6 6; rw [← HA2.out.1]; clear h6 hk6 B6) | (go_at_call_of 26 (Value.pointer (some (Addr.mk p 0 none))); refine (down_any _ p _ _ D6.out.a).mono ?_; rintro e w7 ⟨rfl, hw⟩; subst w7) | (go_at_call_of 26 (Value.pointer (some (Addr.mk q 0 none))); refine (down_any _ q _ _ D6.out.b).mono ?_; rintro e w7 ⟨rfl, hw⟩; subst w7; rw [← HA2.out.2.offs])))
              clear x0 x1 x2 x3 x4 x5 x6 y0 y1 y2 y3 y4 y5 y6 z0 z1 z2 z3 z4 z5 z6 D5 HB5
              go_wp2_with fail
              go_roundw
              case rel => exact ⟨j + 1, L - 1, _, _, _, _, by omega, by go_num, rfl, by omega, by omega, ⟨D6.out, HA2.out.2, (doesOn_room' HRZ.out.1 HOK.out.len).mono (by omega), (doesOn_room' HRZ.out.2 HOK.out.len).mono (by omega)⟩⟩
              case measure => simp [intOf]; omega
          · have HA2 : Hid _ := HD.out.2.1.other hcn hk9 hk10 hk12
            have hcn1 : (decide (1 ≤ o.kind) && decide (o.kind ≤ 8)) = false := by
              by_cases h : 1 ≤ o.kind
              · have : ¬ o.kind ≤ 8 := fun h' => hcn ⟨h, h'⟩
                simp [this]
              · simp [h]
            by_cases hc1 : 1 ≤ o.kind
            · have hc8 : ¬ o.kind ≤ 8 := fun h => hcn ⟨hc1, h⟩
              go_wp2_with fail
              rw [← hV, ← hB]
              clear hV hB e0 e1 e2 e3 e4 e5 e6
              have HDZ : Hid (Duo w V p s q t F G) := HDW.out
              have HBZ : Hid (V.heap[B]? = some (.cells #[.int .i64 o.kind, .int .i64 o.who, .string o.nm, .string o.tn, .slice o.ob nb o.cb, .int .i64 o.N, .int .i64 o.K] 45 (0, 0))) := HBW.out
              have HRZ : Hid (Room ((k + j) * 4194304) s ∧ Room ((k + j) * 4194304) t) := HD.out.2.2
              clear HBW HDW
              obtain ⟨z0, z1, z2, z3, z4, z5, z6⟩ : V.cell? ⟨B, 0, none⟩ = some (.int .i64 o.kind) ∧ V.cell? ⟨B, 1, none⟩ = some (.int .i64 o.who) ∧ V.cell? ⟨B, 2, none⟩ = some (.string o.nm) ∧ V.cell? ⟨B, 3, none⟩ = some (.string o.tn) ∧ V.cell? ⟨B, 4, none⟩ = some (.slice o.ob nb o.cb) ∧ V.cell? ⟨B, 5, none⟩ = some (.int .i64 o.N) ∧ V.cell? ⟨B, 6, none⟩ = some (.int .i64 o.K) := ⟨cell_of_blk HBZ.out 0, cell_of_blk HBZ.out 1, cell_of_blk HBZ.out 2, cell_of_blk HBZ.out 3, cell_of_blk HBZ.out 4, cell_of_blk HBZ.out 5, cell_of_blk HBZ.out 6⟩
              go_wp2_with fail
              go_region_held3 (fun w' => w'.cell? ⟨B, 0, none⟩ = some (.int .i64 o.kind) ∧ w'.cell? ⟨B, 1, none⟩ = some (.int .i64 o.who) ∧ w'.cell? ⟨B, 2, none⟩ = some (.string o.nm) ∧ w'.cell? ⟨B, 3, none⟩ = some (.string o.tn) ∧ w'.cell? ⟨B, 4, none⟩ = some (.slice o.ob nb o.cb) ∧ w'.cell? ⟨B, 5, none⟩ = some (.int .i64 o.N) ∧ w'.cell? ⟨B, 6, none⟩ = some (.int .i64 o.K)) (go_keep) ((first | (go_at_call_of 24 (Value.pointer (some (Addr.mk p 0 none))); rw [← HOC.out]; refine (does_any _ p F s o (HDZ.out.a.keepsN (Keeps.refl no V).drew) (HOK.out.keepsN (HDZ.out.kept.trans (Keeps.refl no V).drew)) _ HRZ.out.1 HM.out).mono ?_; rintro e w5 ⟨rfl, h5, hk5⟩; have D5 : Hid (Duo w w5 p (doesOn o s).1 q (t) (grow F V.drew w5) G) := (HDZ.out.beside (Keeps.refl no V).drew).stepA h5 hk5; have B5 := hk5.at (show V.drew.heap[B]? = _ from HBZ.out) (fun h => by have := HNF.out B (.inl h); omega); have x0 := cell_of_blk B5 0; have x1 := cell_of_blk B5 1; have x2 := cell_of_blk B5 2; have x3 := cell_of_blk B5 3; have x4 := cell_of_blk B5 4; have x5 := cell_of_blk B5 5; have x6 := cell_of_blk B5 6; have HB5 : Hid (_ = _) := B5; clear h5 hk5 B5) | (go_at_call_of 24 (Value.pointer (some (Addr.mk q 0 none))); refine (does_any _ q G (t) o D5.out.b (HOK.out.keepsN D5.out.kept) _ HRZ.out.2 HM.out).mono ?_; rintro e w6 ⟨rfl, h6, hk6⟩; have D6 : Hid (Duo w w6 p (doesOn o s).1 q (doesOn o (t)).1 (grow F V.drew w5) (grow G w5 w6)) := D5.out.stepB h6 hk6; have B6 := hk6.at (show w5.heap[B]? = _ from HB5.out) (fun h => by have := HNF.out B (.inr h); omega); have y0 := cell_of_blk B6 0; have y1 := cell_of_blk B6 1; have y2 := cell_of_blk B6 2; have y3 := cell_of_blk B6 3; have y4 := cell_of_blk B6 4; have y5 := cell_of_blk B6 5; have y6 := cell_of_blk B6 6; rw [← HA2.out.1]; clear h6 hk6 B6) | (go_at_call_of 26 (Value.pointer (some (Addr.mk p 0 none))); refine (down_any _ p _ _ D6.out.a).mono ?_; rintro e w7 ⟨rfl, hw⟩; subst w7) | (go_at_call_of 26 (Value.pointer (some (Addr.mk q 0 none))); refine (down_any _ q _ _ D6.out.b).mono ?_; rintro e w7 ⟨rfl, hw⟩; subst w7; rw [← HA2.out.2.offs])))
              clear x0 x1 x2 x3 x4 x5 x6 y0 y1 y2 y3 y4 y5 y6 z0 z1 z2 z3 z4 z5 z6 D5 HB5
              go_wp2_with fail
              go_roundw
              case rel => exact ⟨j + 1, L, _, _, _, _, by omega, by go_num, rfl, by omega, by omega, ⟨D6.out, HA2.out.2, (doesOn_room' HRZ.out.1 HOK.out.len).mono (by omega), (doesOn_room' HRZ.out.2 HOK.out.len).mono (by omega)⟩⟩
              case measure => simp [intOf]; omega
            · go_wp2_with fail
              rw [← hV, ← hB]
              clear hV hB e0 e1 e2 e3 e4 e5 e6
              have HDZ : Hid (Duo w V p s q t F G) := HDW.out
              have HBZ : Hid (V.heap[B]? = some (.cells #[.int .i64 o.kind, .int .i64 o.who, .string o.nm, .string o.tn, .slice o.ob nb o.cb, .int .i64 o.N, .int .i64 o.K] 45 (0, 0))) := HBW.out
              have HRZ : Hid (Room ((k + j) * 4194304) s ∧ Room ((k + j) * 4194304) t) := HD.out.2.2
              clear HBW HDW
              obtain ⟨z0, z1, z2, z3, z4, z5, z6⟩ : V.cell? ⟨B, 0, none⟩ = some (.int .i64 o.kind) ∧ V.cell? ⟨B, 1, none⟩ = some (.int .i64 o.who) ∧ V.cell? ⟨B, 2, none⟩ = some (.string o.nm) ∧ V.cell? ⟨B, 3, none⟩ = some (.string o.tn) ∧ V.cell? ⟨B, 4, none⟩ = some (.slice o.ob nb o.cb) ∧ V.cell? ⟨B, 5, none⟩ = some (.int .i64 o.N) ∧ V.cell? ⟨B, 6, none⟩ = some (.int .i64 o.K) := ⟨cell_of_blk HBZ.out 0, cell_of_blk HBZ.out 1, cell_of_blk HBZ.out 2, cell_of_blk HBZ.out 3, cell_of_blk HBZ.out 4, cell_of_blk HBZ.out 5, cell_of_blk HBZ.out 6⟩
              go_wp2_with fail
              go_region_held3 (fun w' => w'.cell? ⟨B, 0, none⟩ = some (.int .i64 o.kind) ∧ w'.cell? ⟨B, 1, none⟩ = some (.int .i64 o.who) ∧ w'.cell? ⟨B, 2, none⟩ = some (.string o.nm) ∧ w'.cell? ⟨B, 3, none⟩ = some (.string o.tn) ∧ w'.cell? ⟨B, 4, none⟩ = some (.slice o.ob nb o.cb) ∧ w'.cell? ⟨B, 5, none⟩ = some (.int .i64 o.N) ∧ w'.cell? ⟨B, 6, none⟩ = some (.int .i64 o.K)) (go_keep) ((first | (go_at_call_of 24 (Value.pointer (some (Addr.mk p 0 none))); rw [← HOC.out]; refine (does_any _ p F s o (HDZ.out.a.keepsN (Keeps.refl no V).drew) (HOK.out.keepsN (HDZ.out.kept.trans (Keeps.refl no V).drew)) _ HRZ.out.1 HM.out).mono ?_; rintro e w5 ⟨rfl, h5, hk5⟩; have D5 : Hid (Duo w w5 p (doesOn o s).1 q (t) (grow F V.drew w5) G) := (HDZ.out.beside (Keeps.refl no V).drew).stepA h5 hk5; have B5 := hk5.at (show V.drew.heap[B]? = _ from HBZ.out) (fun h => by have := HNF.out B (.inl h); omega); have x0 := cell_of_blk B5 0; have x1 := cell_of_blk B5 1; have x2 := cell_of_blk B5 2; have x3 := cell_of_blk B5 3; have x4 := cell_of_blk B5 4; have x5 := cell_of_blk B5 5; have x6 := cell_of_blk B5 6; have HB5 : Hid (_ = _) := B5; clear h5 hk5 B5) | (go_at_call_of 24 (Value.pointer (some (Addr.mk q 0 none))); refine (does_any _ q G (t) o D5.out.b (HOK.out.keepsN D5.out.kept) _ HRZ.out.2 HM.out).mono ?_; rintro e w6 ⟨rfl, h6, hk6⟩; have D6 : Hid (Duo w w6 p (doesOn o s).1 q (doesOn o (t)).1 (grow F V.drew w5) (grow G w5 w6)) := D5.out.stepB h6 hk6; have B6 := hk6.at (show w5.heap[B]? = _ from HB5.out) (fun h => by have := HNF.out B (.inr h); omega); have y0 := cell_of_blk B6 0; have y1 := cell_of_blk B6 1; have y2 := cell_of_blk B6 2; have y3 := cell_of_blk B6 3; have y4 := cell_of_blk B6 4; have y5 := cell_of_blk B6 5; have y6 := cell_of_blk B6 6; rw [← HA2.out.1]; clear h6 hk6 B6) | (go_at_call_of 26 (Value.pointer (some (Addr.mk p 0 none))); refine (down_any _ p _ _ D6.out.a).mono ?_; rintro e w7 ⟨rfl, hw⟩; subst w7) | (go_at_call_of 26 (Value.pointer (some (Addr.mk q 0 none))); refine (down_any _ q _ _ D6.out.b).mono ?_; rintro e w7 ⟨rfl, hw⟩; subst w7; rw [← HA2.out.2.offs])))
              clear x0 x1 x2 x3 x4 x5 x6 y0 y1 y2 y3 y4 y5 y6 z0 z1 z2 z3 z4 z5 z6 D5 HB5
              go_wp2_with fail
              go_roundw
              case rel => exact ⟨j + 1, L, _, _, _, _, by omega, by go_num, rfl, by omega, by omega, ⟨D6.out, HA2.out.2, (doesOn_room' HRZ.out.1 HOK.out.len).mono (by omega), (doesOn_room' HRZ.out.2 HOK.out.len).mono (by omega)⟩⟩
              case measure => simp [intOf]; omega
        · have hjn : j = N2 := by omega
          subst hjn
          have HM : Hid ((k + j) * 4194304 ≤ 70368744177664) := (show _ ≤ _ by omega)
          by_cases hL : 0 ≤ L
          · have ho2 : t.off = false := by rw [HD.out.2.1.off]; simp; omega
            have ho1 : s.off = false := by rw [HD.out.2.1.offs]; exact ho2
            have HO : Hid (s.off = false ∧ t.off = false) := ⟨ho1, ho2⟩
            clear ho1 ho2
            go_wp2_with fail
            refine (down_any _ p _ _ HD.out.1.a).mono ?_
            rintro e w7 ⟨rfl, hw⟩
            subst w7
            rw [HO.out.1]
            go_wp2_with fail
            refine (down_any _ q _ _ HD.out.1.b).mono ?_
            rintro e w7 ⟨rfl, hw⟩
            subst w7
            rw [HO.out.2]
            go_wp2_with fail
            go_ret
            exact ⟨rfl, HD.out.1.kept⟩
          · go_wp2_with fail
            refine (shot_any _ p F s HD.out.1.a _ HD.out.2.2.1 HM.out).mono ?_
            rintro e w5 ⟨x, rfl, hx, hxn, hxt, h5, hk5⟩
            obtain ⟨nx, hnx⟩ : ∃ n, n = x.nm.length := ⟨_, rfl⟩
            obtain ⟨mx, hmx⟩ : ∃ n, n = x.ls.length := ⟨_, rfl⟩
            have ex : x.cells = #[.slice x.on nx x.cn, .slice x.ob mx x.cb] := by rw [Sh.cells, hnx, hmx]
            rw [ex]
            have EX : Hid (x.cells = #[.slice x.on nx x.cn, .slice x.ob mx x.cb]) := ex
            have HS5 : Hid (wr.heap.size ≤ w5.heap.size) := hk5.size
            have D5 : Hid (Duo w w5 p (up s) q t F G) := HD.out.1.sameA h5 hk5
            have HX : Hid (ShAt w5 x ∧ (∀ i, x.foot i → wr.heap.size ≤ i) ∧ Tells x (up s)) := ⟨hx, hxn, hxt⟩
            clear hnx hmx ex hx hxn hxt h5 hk5
            go_wp2_with fail
            refine (shot_any _ q G t (D5.out.beside (keeps_alloc w5 _)).b _ HD.out.2.2.2 HM.out).mono ?_
            rintro e w6 ⟨y, rfl, hy, hyn, hyt, h6, hk6⟩
            obtain ⟨ny, hny⟩ : ∃ n, n = y.nm.length := ⟨_, rfl⟩
            obtain ⟨my, hmy⟩ : ∃ n, n = y.ls.length := ⟨_, rfl⟩
            have ey : y.cells = #[.slice y.on ny y.cn, .slice y.ob my y.cb] := by rw [Sh.cells, hny, hmy]
            rw [ey]
            have EY : Hid (y.cells = #[.slice y.on ny y.cn, .slice y.ob my y.cb]) := ey
            have nG : ∀ i, wr.heap.size ≤ i → ¬ G i := fun i hi hg => by have := HD.out.1.b.lt i hg; omega
            have BX := hk6.at (blk_new w5 (.cells #[.slice x.on nx x.cn, .slice x.ob mx x.cb] 48)) (nG _ HS5.out)
            have x0 := cell_of_blk BX 0
            have x1 := cell_of_blk BX 1
            have x2 := (keeps_alloc w6 (.cells #[.slice y.on ny y.cn, .slice y.ob my y.cb] 48)).cellN x0
            have x3 := (keeps_alloc w6 (.cells #[.slice y.on ny y.cn, .slice y.ob my y.cb] 48)).cellN x1
            have D6 : Hid (Duo w w6 p (up s) q (up t) F G) := (D5.out.beside (keeps_alloc w5 _)).sameB h6 hk6
            have HX6 : Hid (ShAt w6 x) := (HX.out.1.keepsN (keeps_alloc w5 _)).keeps hk6 (fun i h1 => nG i (HX.out.2.1 i h1))
            have HY : Hid (ShAt w6 y ∧ Tells y (up t)) := ⟨hy, hyt⟩
            have HE : Hid (x.nm = y.nm ∧ x.ls.map (·.xs) = y.ls.map (·.xs) ∧ x.nm.length ≤ 16 ∧ x.ls.length ≤ 16) := (show _ from by
              have e1 := HX.out.2.2
              have e2 := HD.out.2.1.fss
              have e3 := HD.out.1.a.ok.len
              have e4 := e1.lens
              refine ⟨by rw [e1.nm, hyt.nm]; show (names s.fs).map mkT = (names t.fs).map mkT; rw [e2], by rw [e1.ls, hyt.ls]; show s.fs.map (·.2.bs) = t.fs.map (·.2.bs); rw [e2], by rw [e4.1]; exact e3, by rw [e4.2]; exact e3⟩)
            clear hny hmy ey hy hyn hyt h6 hk6 nG BX
            go_wp2_with fail
            rw [← EX.out, ← EY.out]
            refine (sameShot_yes _ x y (HX6.out.keepsN (keeps_alloc w6 _)) (HY.out.1.keepsN (keeps_alloc w6 _)) HE.out.1 HE.out.2.1 HE.out.2.2.1 HE.out.2.2.2).mono ?_
            rintro e w7 ⟨rfl, hk7⟩
            go_wp2_with fail
            go_ret
            exact ⟨rfl, (D6.out.kept.trans (keeps_alloc w6 _)).trans hk7⟩
end Go.Proofs.Ytgobakfffobpkaa
