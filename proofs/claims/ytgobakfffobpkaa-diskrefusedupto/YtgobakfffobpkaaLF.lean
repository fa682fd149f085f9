/- DiskRefused's walk. -/
import Derived.Test.YtgobakfffobpkaaT8
import Derived.Deep.RegionHeld3
namespace Go.Proofs.Ytgobakfffobpkaa
open Go.RowKit Dk
set_option linter.unusedVariables false
set_option linter.unusedSimpArgs false

set_option maxRecDepth 100000 in
set_option maxHeartbeats 0 in
theorem diskRefused_any (w : World) (o1 : Option Addr) (c1 : Nat) (ps : List OpV) (o2 : Option Addr) (c2 : Nat) (qs : List OpV) (h1 : Script w o1 ps) (h2 : Script w o2 qs) :
    Calls Try.prog 6 #[.slice o1 ps.length c1, .slice o2 qs.length c2] w fun e w' => e = .returned (.bool true) ∧ Keeps no w w' := by
  obtain ⟨N1, hN1⟩ : ∃ N1, N1 = ps.length := ⟨_, rfl⟩
  obtain ⟨N2, hN2⟩ : ∃ N2, N2 = qs.length := ⟨_, rfl⟩
  rw [← hN1, ← hN2]
  have HN1 : Hid (N1 = ps.length) := hN1
  have HN2 : Hid (N2 = qs.length) := hN2
  have l1 : N1 ≤ 1048576 := by have := h1.len; omega
  have l2 : N2 ≤ 1048576 := by have := h2.len; omega
  have H1 : Hid (Script w o1 ps) := h1
  have H2 : Hid (Script w o2 qs) := h2
  clear hN1 hN2 h1 h2
  have kc := fun (w : World) (C : Array Value) (n c : Nat) => Lib.run_convert_bytes_const (P := Try.prog) w 22 5 C n c Try.underlying22 Try.underlying5
  go_enter Try.func6, Try.ntmps6
  go_wp2_with fail
  refine (alive_any w).mono ?_
  rintro e w1 ⟨rfl, hk1⟩
  go_wp2_with fail
  refine (new_any w1).mono ?_
  rintro e w2 ⟨p, rfl, h2, hk2⟩
  go_wp2_with fail
  refine (new_any w2).mono ?_
  rintro e w3 ⟨q, rfl, h3, hk3⟩
  have D0 := duo_new hk1 h2 hk2 h3 hk3
  obtain ⟨F, G, D3⟩ : ∃ F G, Hid (Duo w w3 p Dk.new q Dk.new F G) := ⟨_, _, D0⟩
  clear hk1 h2 hk2 h3 hk3 D0
  go_wp2_with fail
  refine (du_append tK _ 1 1 [107] (D3.out.beside (keeps_alloc _ _)) k0_app tK_max rfl (lit_sl w3 [107] 1 (1, 2) (by decide)) (fun k hk => by rw [in_some hk]; intro h; have := D3.out.a.lt _ h; omega) (by decide) (fun f hf => by cases hf)).mono ?_
  rintro e w4 ⟨rfl, h4, hk4⟩
  obtain ⟨F, D4⟩ : ∃ F, Hid (Duo w w4 p k0 q Dk.new F G) := ⟨_, h4⟩
  clear h4 hk4 D3
  go_wp2_with fail
  refine (du_append tK _ 1 1 [107] (D4.out.swap.beside (keeps_alloc _ _)) k0_app tK_max rfl (lit_sl w4 [107] 1 (1, 2) (by decide)) (fun k hk => by rw [in_some hk]; intro h; have := D4.out.b.lt _ h; omega) (by decide) (fun f hf => by cases hf)).mono ?_
  rintro e w5 ⟨rfl, h5, hk5⟩
  obtain ⟨G, D5⟩ : ∃ G, Hid (Duo w w5 p k0 q k0 F G) := ⟨_, h5.swap⟩
  clear h5 hk5 D4
  go_wp2_with fail
  go_loopw [7] (fun i wr => ∃ (k : Nat) (F G : Nat → Prop) (s : St), k ≤ N1 ∧ i = .int .i64 k ∧ Hid (Duo w wr p s q s F G ∧ Plain s ∧ Room ((k + 1) * 4194304) s)) (fun i _ => N1 - (intOf i).toNat)
  case atStart => exact ⟨0, F, G, k0, by omega, rfl, ⟨D5.out, k0_plain, k0_room⟩⟩
  case round =>
    clear D5 F G
    obtain ⟨k, F, G, s, hk, rfl, HD⟩ := hrel
    by_cases hlt : k < N1
    · have hks : k < ps.length := by have := HN1.out; omega
      obtain ⟨b, off, rfl, hC⟩ := H1.out.at hks
      have hok := H1.out.ok _ (getD_mem ps k op0 hks)
      obtain ⟨o, ho⟩ : ∃ o, o = ps.getD k op0 := ⟨_, rfl⟩
      rw [← ho] at hC hok
      obtain ⟨nb, hnb⟩ : ∃ nb, nb = o.bs.length := ⟨_, rfl⟩
      rw [← hnb] at hC
      have HOC : Hid (o.cells = #[.int .i64 o.kind, .int .i64 o.who, .string o.nm, .string o.tn, .slice o.ob nb o.cb, .int .i64 o.N, .int .i64 o.K]) := (show _ = _ by rw [OpV.cells, hnb])
      have HOK : Hid (o.ok w) := hok
      have HM : Hid ((k + 1) * 4194304 ≤ 70368744177664) := (show _ ≤ _ by omega)
      have ok1 := hok.k.1
      have ok2 := hok.k.2
      obtain ⟨e0, e1, e2, e3, e4, e5, e6⟩ := hC.keepsN HD.out.1.kept
      clear hC hok ho hnb hks
      have HBW : Hid ((wr.alloc (.cells #[.int .i64 o.kind, .int .i64 o.who, .string o.nm, .string o.tn, .slice o.ob nb o.cb, .int .i64 o.N, .int .i64 o.K] 45)).heap[wr.heap.size]? = some (.cells #[.int .i64 o.kind, .int .i64 o.who, .string o.nm, .string o.tn, .slice o.ob nb o.cb, .int .i64 o.N, .int .i64 o.K] 45 (0, 0))) := blk_new wr _
      have HDW : Hid (Duo w (wr.alloc (.cells #[.int .i64 o.kind, .int .i64 o.who, .string o.nm, .string o.tn, .slice o.ob nb o.cb, .int .i64 o.N, .int .i64 o.K] 45)) p s q s F G) := HD.out.1.beside (keeps_alloc wr _)
      have HNF : Hid (∀ i, (F i ∨ G i) → i < wr.heap.size) := (show _ from fun i hi => by rcases hi with h | h; exact HD.out.1.a.lt i h; exact HD.out.1.b.lt i h)
      obtain ⟨V, hV⟩ : ∃ V, V = wr.alloc (.cells #[.int .i64 o.kind, .int .i64 o.who, .string o.nm, .string o.tn, .slice o.ob nb o.cb, .int .i64 o.N, .int .i64 o.K] 45) := ⟨_, rfl⟩
      obtain ⟨B, hB⟩ : ∃ B, B = wr.heap.size := ⟨_, rfl⟩
      rw [← hV, ← hB] at HBW
      rw [← hV] at HDW
      rw [← hB] at HNF
      by_cases hk12 : o.kind = 12
      · rw [hk12] at e0
        clear ok1 ok2
        go_wp2_with fail
        go_roundw
        case rel => exact ⟨k + 1, F, G, s, by omega, by go_num, ⟨HD.out.1.beside (keeps_alloc wr _), HD.out.2.1, HD.out.2.2.mono (by omega)⟩⟩
        case measure => simp [intOf]; omega
      by_cases hk11 : o.kind = 11
      · rw [hk11] at e0
        clear ok1 ok2
        go_wp2_with fail
        go_roundw
        case rel => exact ⟨k + 1, F, G, s, by omega, by go_num, ⟨HD.out.1.beside (keeps_alloc wr _), HD.out.2.1, HD.out.2.2.mono (by omega)⟩⟩
        case measure => simp [intOf]; omega
      have t12 : (o.kind == 12) = false := by simpa using hk12
      have t11 : (o.kind == 11) = false := by simpa using hk11
      go_wp2_with fail
      rw [← hV, ← hB]
      clear hV hB e0 e1 e2 e3 e4 e5 e6
      obtain ⟨z0, z1, z2, z3, z4, z5, z6⟩ : V.cell? ⟨B, 0, none⟩ = some (.int .i64 o.kind) ∧ V.cell? ⟨B, 1, none⟩ = some (.int .i64 o.who) ∧ V.cell? ⟨B, 2, none⟩ = some (.string o.nm) ∧ V.cell? ⟨B, 3, none⟩ = some (.string o.tn) ∧ V.cell? ⟨B, 4, none⟩ = some (.slice o.ob nb o.cb) ∧ V.cell? ⟨B, 5, none⟩ = some (.int .i64 o.N) ∧ V.cell? ⟨B, 6, none⟩ = some (.int .i64 o.K) := ⟨cell_of_blk HBW.out 0, cell_of_blk HBW.out 1, cell_of_blk HBW.out 2, cell_of_blk HBW.out 3, cell_of_blk HBW.out 4, cell_of_blk HBW.out 5, cell_of_blk HBW.out 6⟩
      go_region_held3 (fun w' => w'.cell? ⟨B, 0, none⟩ = some (.int .i64 o.kind) ∧ w'.cell? ⟨B, 1, none⟩ = some (.int .i64 o.who) ∧ w'.cell? ⟨B, 2, none⟩ = some (.string o.nm) ∧ w'.cell? ⟨B, 3, none⟩ = some (.string o.tn) ∧ w'.cell? ⟨B, 4, none⟩ = some (.slice o.ob nb o.cb) ∧ w'.cell? ⟨B, 5, none⟩ = some (.int .i64 o.N) ∧ w'.cell? ⟨B, 6, none⟩ = some (.int .i64 o.K)) (go_keep) ((first | (go_at_call_of 24 (Value.pointer (some (Addr.mk p 0 none))); rw [← HOC.out]; refine (does_any _ p F s o (HDW.out.a.keepsN (Keeps.refl no V).drew) (HOK.out.keepsN (HDW.out.kept.trans (Keeps.refl no V).drew)) _ HD.out.2.2 HM.out).mono ?_; rintro e w5 ⟨rfl, h5, hk5⟩; have D5 : Hid (Duo w w5 p (doesOn o s).1 q s (grow F V.drew w5) G) := (HDW.out.beside (Keeps.refl no V).drew).stepA h5 hk5; have B5 := hk5.at (show V.drew.heap[B]? = _ from HBW.out) (fun h => by have := HNF.out B (.inl h); omega); have x0 := cell_of_blk B5 0; have x1 := cell_of_blk B5 1; have x2 := cell_of_blk B5 2; have x3 := cell_of_blk B5 3; have x4 := cell_of_blk B5 4; have x5 := cell_of_blk B5 5; have x6 := cell_of_blk B5 6; have HB5 : Hid (_ = _) := B5; clear h5 hk5 B5) | (go_at_call_of 24 (Value.pointer (some (Addr.mk q 0 none))); refine (does_any _ q G s o D5.out.b (HOK.out.keepsN D5.out.kept) _ HD.out.2.2 HM.out).mono ?_; rintro e w6 ⟨rfl, h6, hk6⟩; have D6 : Hid (Duo w w6 p (doesOn o s).1 q (doesOn o s).1 (grow F V.drew w5) (grow G w5 w6)) := D5.out.stepB h6 hk6; have B6 := hk6.at (show w5.heap[B]? = _ from HB5.out) (fun h => by have := HNF.out B (.inr h); omega); have y0 := cell_of_blk B6 0; have y1 := cell_of_blk B6 1; have y2 := cell_of_blk B6 2; have y3 := cell_of_blk B6 3; have y4 := cell_of_blk B6 4; have y5 := cell_of_blk B6 5; have y6 := cell_of_blk B6 6; clear h6 hk6 B6)))
      clear x0 x1 x2 x3 x4 x5 x6 y0 y1 y2 y3 y4 y5 y6 z0 z1 z2 z3 z4 z5 z6 D5 HB5
      obtain ⟨F1, G1, s1, E6⟩ : ∃ F1 G1 s1, Hid (Duo w w6 p s1 q s1 F1 G1 ∧ Plain s1 ∧ Room ((k + 2) * 4194304) s1) := ⟨_, _, _, D6.out, HD.out.2.1.does hk11 hk12, (doesOn_room' HD.out.2.2 HOK.out.len).mono (by omega)⟩
      clear D6 HD HOC HOK HBW HDW HNF hk11 hk12 t11 t12
      by_cases hk2 : k < N2
      · have hks : k < qs.length := by have := HN2.out; omega
        obtain ⟨b2, off2, rfl, hC⟩ := H2.out.at hks
        have hok := H2.out.ok _ (getD_mem qs k op0 hks)
        obtain ⟨x, hx⟩ : ∃ x, x = qs.getD k op0 := ⟨_, rfl⟩
        rw [← hx] at hC hok
        obtain ⟨nx, hnx⟩ : ∃ nx, nx = x.bs.length := ⟨_, rfl⟩
        rw [← hnx] at hC
        have HNX : Hid (nx = x.bs.length) := hnx
        have HXK : Hid (x.ok w) := hok
        obtain ⟨e0, e1, e2, e3, e4, e5, e6⟩ := hC.keepsN E6.out.1.kept
        clear hC hok hx hnx hks
        go_wp2_with fail
        refine (down_any _ p _ _ E6.out.1.a).mono ?_
        rintro e w7 ⟨rfl, hw⟩
        subst w7
        cases hoff : s1.off with
        | true =>
          go_wp2_with fail
          go_roundw
          case rel => exact ⟨k + 1, F1, G1, s1, by omega, by go_num, ⟨E6.out.1, E6.out.2.1, E6.out.2.2.mono (by omega)⟩⟩
          case measure => simp [intOf]; omega
        | false =>
          have HO : Hid (s1.off = false) := hoff
          clear hoff
          have HB : Hid ((w6.alloc (.cells #[.int .i64 x.kind, .int .i64 x.who, .string x.nm, .string x.tn, .slice x.ob nx x.cb, .int .i64 x.N, .int .i64 x.K] 45)).heap[w6.heap.size]? = some (.cells #[.int .i64 x.kind, .int .i64 x.who, .string x.nm, .string x.tn, .slice x.ob nx x.cb, .int .i64 x.N, .int .i64 x.K] 45 (0, 0))) := blk_new w6 _
          have NF : Hid (¬ F1 w6.heap.size) := (show ¬ F1 w6.heap.size from fun h => by have := E6.out.1.a.lt _ h; omega)
          have HP : Hid (Plain s1) := E6.out.2.1
          have HOk : Hid (Ok s1) := E6.out.1.a.ok
          have HM2 : Hid ((k + 2) * 4194304 ≤ 70368744177664) := (show _ ≤ _ by omega)
          have hand := i64_and255 x.N
          obtain ⟨MX, hMX⟩ : ∃ MX, MX = x.N % 256 := ⟨_, rfl⟩
          rw [← hMX] at hand
          have mx1 : 0 ≤ MX := by omega
          have mx2 : MX ≤ 255 := by omega
          clear hMX
          go_wp2_with fail
          cases hfd : find tK.data.toList s1.fs with
          | none =>
            have HFD : Hid (find tK.data.toList s1.fs = none) := hfd
            clear hfd
            refine (du_full 1 (E6.out.1.beside (keeps_alloc w6 _)) (rS_full1 s1) (by unfold i64; omega)).mono ?_
            rintro e w7 ⟨rfl, h7, hk7⟩
            have D7 : Hid (Duo w w7 p (rS s1 1) q s1 F1 G1) := h7
            have b7 := hk7.at HB.out NF.out
            have B7 : Hid (w7.heap[w6.heap.size]? = some (.cells #[.int .i64 x.kind, .int .i64 x.who, .string x.nm, .string x.tn, .slice x.ob nx x.cb, .int .i64 x.N, .int .i64 x.K] 45 (0, 0))) := b7
            have d7 := cell_of_blk b7 4
            clear h7 hk7 b7
            go_wp2_with fail
            refine (own_any w7 x.ob nx x.cb x.bs HNX.out (HXK.out.sl.keepsN D7.out.kept) (by have := HXK.out.len; omega)).mono ?_
            rintro e w8 ⟨v, rfl, o8, n8, c8, rfl, hn8, ho8, hw8, hk8⟩
            clear d7
            go_wp2_with (at_builtin; refine wpList_app okB rfl _ _ rfl o8 n8 c8 x.bs rfl hn8.out (ho8.keepsN (keeps_alloc w8 (.cells #[.int .u8 1] 5))) (some ⟨w8.heap.size, 0, none⟩) 1 1 [1] rfl rfl (fun e => by cases e) (lit_row (E := BE) w8 1 #[.int .u8 1] 5 _ rfl) (by have := HXK.out.len; simp [BE]; omega) (by have := HXK.out.len; simp; omega) ?_; intro o9 c9 w9 ho9 hap9)
            have N9 := hap9.new (w0 := w7) hw8 (hk8.alloc _)
            have O9 : Hid (Own BE w9 o9 c9 (x.bs ++ [1])) := ho9
            have HN9 : Hid (New w7 o9 ∧ Keeps no w7 w9) := N9
            clear hap9 ho9 ho8 hw8 hk8 N9
            obtain ⟨r1, e1', hA1, hE1⟩ := ref_app HP.out.calls HO.out (x.bs ++ [1]) (by simp)
            refine (du_append tK o9 (n8 + 1) c9 (x.bs ++ [1]) (D7.out.beside HN9.out.2) hA1 tK_max (by rw [List.length_append, hn8.out]; rfl) O9.out.sl (fun i hi hf => by have := HN9.out.1 i hi; have := D7.out.a.lt i hf; omega) (by have := HXK.out.len; simp; omega) (fun f hf => by rw [rS_tick HP.out.calls] at hf; have := E6.out.2.2.find (f := f) hf; have := HXK.out.len; have := HM2.out; simp; omega)).mono ?_
            rintro e w10 ⟨rfl, h10, hk10⟩
            have B10 : Hid (w10.heap[w6.heap.size]? = some (.cells #[.int .i64 x.kind, .int .i64 x.who, .string x.nm, .string x.tn, .slice x.ob nx x.cb, .int .i64 x.N, .int .i64 x.K] 45 (0, 0))) := hk10.at (HN9.out.2.at B7.out id) NF.out
            obtain ⟨F2, D10, NF2⟩ : ∃ F2, Hid (Duo w w10 p (rS s1 r1) q s1 F2 G1) ∧ Hid (¬ F2 w6.heap.size) := ⟨_, h10, (show ¬ grow F1 w9 w10 _ from fun h => by rcases h with h | h; exact NF.out h; have := lt_of_block (HN9.out.2.at B7.out id); omega)⟩
            have d10 := cell_of_blk B10.out 4
            clear h10 hk10 hA1 hE1 O9 HN9 D7 B7
            go_wp2_with fail
            refine (own_any w10 x.ob nx x.cb x.bs HNX.out (HXK.out.sl.keepsN D10.out.kept) (by have := HXK.out.len; omega)).mono ?_
            rintro e w11 ⟨v, rfl, o11, n11, c11, rfl, hn11, ho11, hw11, hk11⟩
            clear d10
            go_wp2_with fail
            refine (du_append tE o11 n11 c11 x.bs (D10.out.beside hk11) (ref_app0 HP.out.calls HO.out r1 x.bs) tE_max hn11.out ho11.sl (fun i hi hf => by have := hw11 i hi; have := D10.out.a.lt i hf; omega) (by have := HXK.out.len; omega) (fun f hf => by rw [rS_tick HP.out.calls] at hf; have := E6.out.2.2.find (f := f) hf; have := HXK.out.len; have := HM2.out; omega)).mono ?_
            rintro e w12 ⟨rfl, h12, hk12⟩
            have B12 : Hid (w12.heap[w6.heap.size]? = some (.cells #[.int .i64 x.kind, .int .i64 x.who, .string x.nm, .string x.tn, .slice x.ob nx x.cb, .int .i64 x.N, .int .i64 x.K] 45 (0, 0))) := hk12.at (hk11.at B10.out id) NF2.out
            obtain ⟨F3, D12, NF3⟩ : ∃ F3, Hid (Duo w w12 p (rS s1 r1) q s1 F3 G1) ∧ Hid (¬ F3 w6.heap.size) := ⟨_, h12, (show ¬ grow F2 w11 w12 _ from fun h => by rcases h with h | h; exact NF2.out h; have := lt_of_block (hk11.at B10.out id); omega)⟩
            clear h12 hk12 ho11 hw11 hk11 D10 B10 NF2 hn11 hn8
            go_wp2_with fail
            refine (du_sync tG D12.out (ref_sync HOk.out HP.out.calls HO.out r1) tG_max).mono ?_
            rintro e w13 ⟨rfl, h13, hk13⟩
            have D13 : Hid (Duo w w13 p (rS s1 r1) q s1 F3 G1) := h13
            have B13 : Hid (w13.heap[w6.heap.size]? = some (.cells #[.int .i64 x.kind, .int .i64 x.who, .string x.nm, .string x.tn, .slice x.ob nx x.cb, .int .i64 x.N, .int .i64 x.K] 45 (0, 0))) := hk13.at B12.out NF3.out
            clear h13 hk13 D12 B12
            go_wp2_with fail
            refine (du_read tE (b := []) D13.out (rS_tick HP.out.calls r1) (ref_readB HOk.out r1) (ref_readE HOk.out HO.out r1) tE_max (by decide)).mono ?_
            rintro e w14 ⟨o14, c14, n14, rfl, _, _, _, h14, hk14⟩
            have D14 : Hid (Duo w w14 p (rS s1 r1) q s1 F3 G1) := h14
            have B14 : Hid (w14.heap[w6.heap.size]? = some (.cells #[.int .i64 x.kind, .int .i64 x.who, .string x.nm, .string x.tn, .slice x.ob nx x.cb, .int .i64 x.N, .int .i64 x.K] 45 (0, 0))) := hk14.at B13.out NF3.out
            clear h14 hk14 D13 B13
            go_wp2_with fail
            refine (du_rename tK tR D14.out (ref_ren HP.out.calls HO.out r1) tK_max).mono ?_
            rintro e w15 ⟨rfl, h15, hk15⟩
            have D15 : Hid (Duo w w15 p (rS s1 r1) q s1 F3 G1) := h15
            have B15 : Hid (w15.heap[w6.heap.size]? = some (.cells #[.int .i64 x.kind, .int .i64 x.who, .string x.nm, .string x.tn, .slice x.ob nx x.cb, .int .i64 x.N, .int .i64 x.K] 45 (0, 0))) := hk15.at B14.out NF3.out
            clear h15 hk15 D14 B14
            go_wp2_with fail
            refine (du_size (er := 61) tK 0 D15.out (rS_tick HP.out.calls r1) (by have h : find tK.data.toList (rS s1 r1).fs = none := HFD.out; unfold readB; rw [h]; simp) (by have h : find tK.data.toList (rS s1 r1).fs = none := HFD.out; unfold readE; rw [h]; simp [rS, HO.out]) tK_max).mono ?_
            rintro e w16 ⟨rfl, h16, hk16⟩
            have D16 : Hid (Duo w w16 p (rS s1 r1) q s1 F3 G1) := h16
            clear h16 hk16 D15 B15
            go_wp2_with fail
            refine (du_full 0 D16.out (rS_full0 HP.out.ref r1) (by unfold i64; omega)).mono ?_
            rintro e w19 ⟨rfl, h19, hk19⟩
            have D19 : Hid (Duo w w19 p s1 q s1 F3 G1) := h19
            clear h19 hk19 D16
            go_wp2_with fail
            go_roundw
            case rel => exact ⟨k + 1, F3, G1, s1, by omega, by go_num, ⟨D19.out, E6.out.2.1, E6.out.2.2.mono (by omega)⟩⟩
            case measure => simp [intOf]; omega
          | some f =>
            have HFD : Hid (find tK.data.toList s1.fs = some f) := hfd
            clear hfd
            obtain ⟨mm, hmm⟩ : ∃ mm, mm = f.bs.length := ⟨_, rfl⟩
            have HMM : Hid (mm = f.bs.length) := hmm
            have hm1 : mm ≤ 70368744177664 := by have := E6.out.2.2.find HFD.out; omega
            clear hmm
            refine (du_full 1 (E6.out.1.beside (keeps_alloc w6 _)) (rS_full1 s1) (by unfold i64; omega)).mono ?_
            rintro e w7 ⟨rfl, h7, hk7⟩
            have D7 : Hid (Duo w w7 p (rS s1 1) q s1 F1 G1) := h7
            have b7 := hk7.at HB.out NF.out
            have B7 : Hid (w7.heap[w6.heap.size]? = some (.cells #[.int .i64 x.kind, .int .i64 x.who, .string x.nm, .string x.tn, .slice x.ob nx x.cb, .int .i64 x.N, .int .i64 x.K] 45 (0, 0))) := b7
            have d7 := cell_of_blk b7 4
            clear h7 hk7 b7
            go_wp2_with fail
            refine (own_any w7 x.ob nx x.cb x.bs HNX.out (HXK.out.sl.keepsN D7.out.kept) (by have := HXK.out.len; omega)).mono ?_
            rintro e w8 ⟨v, rfl, o8, n8, c8, rfl, hn8, ho8, hw8, hk8⟩
            clear d7
            go_wp2_with (at_builtin; refine wpList_app okB rfl _ _ rfl o8 n8 c8 x.bs rfl hn8.out (ho8.keepsN (keeps_alloc w8 (.cells #[.int .u8 1] 5))) (some ⟨w8.heap.size, 0, none⟩) 1 1 [1] rfl rfl (fun e => by cases e) (lit_row (E := BE) w8 1 #[.int .u8 1] 5 _ rfl) (by have := HXK.out.len; simp [BE]; omega) (by have := HXK.out.len; simp; omega) ?_; intro o9 c9 w9 ho9 hap9)
            have N9 := hap9.new (w0 := w7) hw8 (hk8.alloc _)
            have O9 : Hid (Own BE w9 o9 c9 (x.bs ++ [1])) := ho9
            have HN9 : Hid (New w7 o9 ∧ Keeps no w7 w9) := N9
            clear hap9 ho9 ho8 hw8 hk8 N9
            obtain ⟨r1, e1', hA1, hE1⟩ := ref_app HP.out.calls HO.out (x.bs ++ [1]) (by simp)
            obtain rfl : e1' = 60 := hE1 (by rw [HFD.out]; simp)
            refine (du_append tK o9 (n8 + 1) c9 (x.bs ++ [1]) (D7.out.beside HN9.out.2) hA1 tK_max (by rw [List.length_append, hn8.out]; rfl) O9.out.sl (fun i hi hf => by have := HN9.out.1 i hi; have := D7.out.a.lt i hf; omega) (by have := HXK.out.len; simp; omega) (fun f hf => by rw [rS_tick HP.out.calls] at hf; have := E6.out.2.2.find (f := f) hf; have := HXK.out.len; have := HM2.out; simp; omega)).mono ?_
            rintro e w10 ⟨rfl, h10, hk10⟩
            have B10 : Hid (w10.heap[w6.heap.size]? = some (.cells #[.int .i64 x.kind, .int .i64 x.who, .string x.nm, .string x.tn, .slice x.ob nx x.cb, .int .i64 x.N, .int .i64 x.K] 45 (0, 0))) := hk10.at (HN9.out.2.at B7.out id) NF.out
            obtain ⟨F2, D10, NF2⟩ : ∃ F2, Hid (Duo w w10 p (rS s1 r1) q s1 F2 G1) ∧ Hid (¬ F2 w6.heap.size) := ⟨_, h10, (show ¬ grow F1 w9 w10 _ from fun h => by rcases h with h | h; exact NF.out h; have := lt_of_block (HN9.out.2.at B7.out id); omega)⟩
            have d10 := cell_of_blk B10.out 4
            clear h10 hk10 hA1 hE1 O9 HN9 D7 B7
            go_wp2_with fail
            refine (own_any w10 x.ob nx x.cb x.bs HNX.out (HXK.out.sl.keepsN D10.out.kept) (by have := HXK.out.len; omega)).mono ?_
            rintro e w11 ⟨v, rfl, o11, n11, c11, rfl, hn11, ho11, hw11, hk11⟩
            clear d10
            go_wp2_with fail
            refine (du_append tE o11 n11 c11 x.bs (D10.out.beside hk11) (ref_app0 HP.out.calls HO.out r1 x.bs) tE_max hn11.out ho11.sl (fun i hi hf => by have := hw11 i hi; have := D10.out.a.lt i hf; omega) (by have := HXK.out.len; omega) (fun f hf => by rw [rS_tick HP.out.calls] at hf; have := E6.out.2.2.find (f := f) hf; have := HXK.out.len; have := HM2.out; omega)).mono ?_
            rintro e w12 ⟨rfl, h12, hk12⟩
            have B12 : Hid (w12.heap[w6.heap.size]? = some (.cells #[.int .i64 x.kind, .int .i64 x.who, .string x.nm, .string x.tn, .slice x.ob nx x.cb, .int .i64 x.N, .int .i64 x.K] 45 (0, 0))) := hk12.at (hk11.at B10.out id) NF2.out
            obtain ⟨F3, D12, NF3⟩ : ∃ F3, Hid (Duo w w12 p (rS s1 r1) q s1 F3 G1) ∧ Hid (¬ F3 w6.heap.size) := ⟨_, h12, (show ¬ grow F2 w11 w12 _ from fun h => by rcases h with h | h; exact NF2.out h; have := lt_of_block (hk11.at B10.out id); omega)⟩
            clear h12 hk12 ho11 hw11 hk11 D10 B10 NF2 hn11 hn8
            go_wp2_with fail
            refine (du_sync tG D12.out (ref_sync HOk.out HP.out.calls HO.out r1) tG_max).mono ?_
            rintro e w13 ⟨rfl, h13, hk13⟩
            have D13 : Hid (Duo w w13 p (rS s1 r1) q s1 F3 G1) := h13
            have B13 : Hid (w13.heap[w6.heap.size]? = some (.cells #[.int .i64 x.kind, .int .i64 x.who, .string x.nm, .string x.tn, .slice x.ob nx x.cb, .int .i64 x.N, .int .i64 x.K] 45 (0, 0))) := hk13.at B12.out NF3.out
            clear h13 hk13 D12 B12
            go_wp2_with fail
            refine (du_read tE (b := []) D13.out (rS_tick HP.out.calls r1) (ref_readB HOk.out r1) (ref_readE HOk.out HO.out r1) tE_max (by decide)).mono ?_
            rintro e w14 ⟨o14, c14, n14, rfl, _, _, _, h14, hk14⟩
            have D14 : Hid (Duo w w14 p (rS s1 r1) q s1 F3 G1) := h14
            have B14 : Hid (w14.heap[w6.heap.size]? = some (.cells #[.int .i64 x.kind, .int .i64 x.who, .string x.nm, .string x.tn, .slice x.ob nx x.cb, .int .i64 x.N, .int .i64 x.K] 45 (0, 0))) := hk14.at B13.out NF3.out
            clear h14 hk14 D13 B13
            go_wp2_with fail
            refine (du_rename tK tR D14.out (ref_ren HP.out.calls HO.out r1) tK_max).mono ?_
            rintro e w15 ⟨rfl, h15, hk15⟩
            have D15 : Hid (Duo w w15 p (rS s1 r1) q s1 F3 G1) := h15
            have B15 : Hid (w15.heap[w6.heap.size]? = some (.cells #[.int .i64 x.kind, .int .i64 x.who, .string x.nm, .string x.tn, .slice x.ob nx x.cb, .int .i64 x.N, .int .i64 x.K] 45 (0, 0))) := hk15.at B14.out NF3.out
            clear h15 hk15 D14 B14
            go_wp2_with fail
            refine (du_size (er := 0) tK mm D15.out (rS_tick HP.out.calls r1) (by have h : find tK.data.toList (rS s1 r1).fs = some f := HFD.out; unfold readB; rw [h]; simpa [rS, HO.out] using HMM.out) (by have h : find tK.data.toList (rS s1 r1).fs = some f := HFD.out; unfold readE; rw [h]; simp [rS, HO.out]) tK_max).mono ?_
            rintro e w16 ⟨rfl, h16, hk16⟩
            have D16 : Hid (Duo w w16 p (rS s1 r1) q s1 F3 G1) := h16
            have B16 : Hid (w16.heap[w6.heap.size]? = some (.cells #[.int .i64 x.kind, .int .i64 x.who, .string x.nm, .string x.tn, .slice x.ob nx x.cb, .int .i64 x.N, .int .i64 x.K] 45 (0, 0))) := hk16.at B15.out NF3.out
            clear h16 hk16 D15 B15
            go_wp2_with fail
            refine (du_cut tK ((mm : Int) + 1) D16.out (ref_cut HP.out.calls HO.out r1 HFD.out _ (.inr (by rw [← HMM.out]; omega))) tK_max (by unfold i64; omega)).mono ?_
            rintro e w17 ⟨rfl, h17, hk17⟩
            have D17 : Hid (Duo w w17 p (rS s1 r1) q s1 F3 G1) := h17
            have d17 := cell_of_blk (hk17.at B16.out NF3.out) 5
            clear h17 hk17 D16 B16
            go_wp2_with fail
            refine (du_cut tK (-1 - MX) D17.out (ref_cut HP.out.calls HO.out r1 HFD.out _ (.inl (by omega))) tK_max (by unfold i64; omega)).mono ?_
            rintro e w18 ⟨rfl, h18, hk18⟩
            have D18 : Hid (Duo w w18 p (rS s1 r1) q s1 F3 G1) := h18
            clear h18 hk18 D17 d17
            go_wp2_with fail
            refine (du_full 0 D18.out (rS_full0 HP.out.ref r1) (by unfold i64; omega)).mono ?_
            rintro e w19 ⟨rfl, h19, hk19⟩
            have D19 : Hid (Duo w w19 p s1 q s1 F3 G1) := h19
            clear h19 hk19 D18
            go_wp2_with fail
            go_roundw
            case rel => exact ⟨k + 1, F3, G1, s1, by omega, by go_num, ⟨D19.out, E6.out.2.1, E6.out.2.2.mono (by omega)⟩⟩
            case measure => simp [intOf]; omega
      · go_wp2_with fail
        go_roundw
        case rel => exact ⟨k + 1, F1, G1, s1, by omega, by go_num, ⟨E6.out.1, E6.out.2.1, E6.out.2.2.mono (by omega)⟩⟩
        case measure => simp [intOf]; omega
    · have hkn : k = N1 := by omega
      subst hkn
      have HM2 : Hid ((k + 1) * 4194304 ≤ 70368744177664) := (show _ ≤ _ by omega)
      have NFG : Hid (∀ i, wr.heap.size ≤ i → ¬ F i ∧ ¬ G i) := (show _ from fun i hi => ⟨fun hf => by have := HD.out.1.a.lt i hf; omega, fun hg => by have := HD.out.1.b.lt i hg; omega⟩)
      go_wp2_with fail
      refine (du_shot _ HD.out.1 HD.out.2.2 HM2.out).mono ?_
      rintro e w5 ⟨x, nx, mx, rfl, EX, SX, D5, K5⟩
      go_wp2_with fail
      refine (du_shot _ (D5.out.swap.beside (keeps_alloc w5 _)) HD.out.2.2 HM2.out).mono ?_
      rintro e w6 ⟨y, ny, my, rfl, EY, SY, D6s, K6⟩
      have S5 : Hid (wr.heap.size ≤ w5.heap.size) := K5.out.size
      have S6 : Hid (wr.heap.size ≤ w6.heap.size) := Nat.le_trans S5.out (Nat.le_trans (keeps_alloc w5 (.cells #[.slice x.on nx x.cn, .slice x.ob mx x.cb] 48)).size K6.out.size)
      have D6 : Hid (Duo w w6 p (up s) q (up s) F G) := D6s.out.swap
      have X6 : Hid (w6.heap[w5.heap.size]? = some (.cells #[.slice x.on nx x.cn, .slice x.ob mx x.cb] 48 (0, 0))) := K6.out.at (blk_new w5 _) (NFG.out _ S5.out).2
      have SX6 : Hid (Shx w6 x F G (up s)) := (SX.out.keepsN (keeps_alloc w5 _)).keepsG K6.out
      have SY6 : Hid (Shx w6 y F G (up s)) := SY.out.swap
      clear D5 D6s SX SY K5 K6
      go_wp2_with fail
      refine (du_crash 0 (D6.out.beside (keeps_alloc w6 _)) (by unfold i64; omega)).mono ?_
      rintro e w7 ⟨rfl, h7, K7⟩
      have D7 : Hid (Duo w w7 p (crash 0 (up s)) q (up s) F G) := h7
      have X7 : Hid (w7.heap[w5.heap.size]? = some (.cells #[.slice x.on nx x.cn, .slice x.ob mx x.cb] 48 (0, 0))) := K7.at (blk_alloc X6.out _) (NFG.out _ S5.out).1
      have Y7 : Hid (w7.heap[w6.heap.size]? = some (.cells #[.slice y.on ny y.cn, .slice y.ob my y.cb] 48 (0, 0))) := K7.at (blk_new w6 _) (NFG.out _ S6.out).1
      have SX7 : Hid (Shx w7 x F G (up s)) := (SX6.out.keepsN (keeps_alloc w6 _)).keepsF K7
      have SY7 : Hid (Shx w7 y F G (up s)) := (SY6.out.keepsN (keeps_alloc w6 _)).keepsF K7
      have S7 : Hid (wr.heap.size ≤ w7.heap.size) := Nat.le_trans S6.out (Nat.le_trans (keeps_alloc w6 (.cells #[.slice y.on ny y.cn, .slice y.ob my y.cb] 48)).size K7.size)
      clear h7 K7 D6 X6 SX6 SY6
      go_wp2_with fail
      refine (du_crash 0 D7.out.swap (by unfold i64; omega)).mono ?_
      rintro e w8 ⟨rfl, h8, K8⟩
      have D8 : Hid (Duo w w8 p (crash 0 (up s)) q (crash 0 (up s)) F G) := h8.swap
      have X8 : Hid (w8.heap[w5.heap.size]? = some (.cells #[.slice x.on nx x.cn, .slice x.ob mx x.cb] 48 (0, 0))) := K8.at X7.out (NFG.out _ S5.out).2
      have Y8 : Hid (w8.heap[w6.heap.size]? = some (.cells #[.slice y.on ny y.cn, .slice y.ob my y.cb] 48 (0, 0))) := K8.at Y7.out (NFG.out _ S6.out).2
      have SX8 : Hid (Shx w8 x F G (up s)) := SX7.out.keepsG K8
      have SY8 : Hid (Shx w8 y F G (up s)) := SY7.out.keepsG K8
      have S8 : Hid (wr.heap.size ≤ w8.heap.size) := Nat.le_trans S7.out K8.size
      have HR8 : Hid (Room ((k + 1) * 4194304) (crash 0 (up s))) := Room.crash (s := up s) HD.out.2.2
      clear h8 K8 D7 X7 Y7 SX7 SY7 S7
      go_wp2_with fail
      refine (du_shot _ D8.out HR8.out HM2.out).mono ?_
      rintro e w9 ⟨z, nz, mz, rfl, EZ, SZ, D9, K9⟩
      have X9 : Hid (w9.heap[w5.heap.size]? = some (.cells #[.slice x.on nx x.cn, .slice x.ob mx x.cb] 48 (0, 0))) := K9.out.at X8.out (NFG.out _ S5.out).1
      have Y9 : Hid (w9.heap[w6.heap.size]? = some (.cells #[.slice y.on ny y.cn, .slice y.ob my y.cb] 48 (0, 0))) := K9.out.at Y8.out (NFG.out _ S6.out).1
      have SX9 : Hid (Shx w9 x F G (up s)) := SX8.out.keepsF K9.out
      have SY9 : Hid (Shx w9 y F G (up s)) := SY8.out.keepsF K9.out
      have S9 : Hid (wr.heap.size ≤ w9.heap.size) := Nat.le_trans S8.out K9.out.size
      clear D8 X8 Y8 SX8 SY8 S8 K9
      go_wp2_with fail
      refine (du_shot _ (D9.out.swap.beside (keeps_alloc w9 _)) HR8.out HM2.out).mono ?_
      rintro e w10 ⟨u, nu, mu, rfl, EU, SU, D10, K10⟩
      have X10 := K10.out.at (blk_alloc X9.out (.cells #[.slice z.on nz z.cn, .slice z.ob mz z.cb] 48)) (NFG.out _ S5.out).2
      have Y10 := K10.out.at (blk_alloc Y9.out (.cells #[.slice z.on nz z.cn, .slice z.ob mz z.cb] 48)) (NFG.out _ S6.out).2
      have Z10 := K10.out.at (blk_new w9 (.cells #[.slice z.on nz z.cn, .slice z.ob mz z.cb] 48)) (NFG.out _ S9.out).2
      have SX10 : Hid (Shx w10 x F G (up s)) := (SX9.out.keepsN (keeps_alloc w9 _)).keepsG K10.out
      have SY10 : Hid (Shx w10 y F G (up s)) := (SY9.out.keepsN (keeps_alloc w9 _)).keepsG K10.out
      have SZ10 : Hid (Shx w10 z F G (up (crash 0 (up s)))) := (SZ.out.keepsN (keeps_alloc w9 _)).keepsG K10.out
      have KW : Hid (Keeps no w10 (w10.alloc (.cells #[.slice u.on nu u.cn, .slice u.ob mu u.cb] 48))) := keeps_alloc w10 _
      have cx0 := KW.out.cellN (cell_of_blk X10 0)
      have cx1 := KW.out.cellN (cell_of_blk X10 1)
      have cy0 := KW.out.cellN (cell_of_blk Y10 0)
      have cy1 := KW.out.cellN (cell_of_blk Y10 1)
      have cz0 := KW.out.cellN (cell_of_blk Z10 0)
      have cz1 := KW.out.cellN (cell_of_blk Z10 1)
      have U10 := blk_new w10 (.cells #[.slice u.on nu u.cn, .slice u.ob mu u.cb] 48)
      have cu0 := cell_of_blk U10 0
      have cu1 := cell_of_blk U10 1
      clear X9 Y9 SX9 SY9 SZ X10 Y10 Z10 U10 K10
      have HL16 : Hid (s.fs.length ≤ 16 ∧ (up (crash 0 (up s))).fs.length ≤ 16) := ⟨HD.out.1.a.ok.len, D9.out.a.ok.len⟩
      go_wp2_with fail
      rw [← EX.out, ← EY.out]
      refine (sameShot_of x y (SX10.out.sh.keepsN KW.out) (SY10.out.sh.keepsN KW.out) SX10.out.tl SY10.out.tl rfl HL16.out.1).mono ?_
      rintro e w12 ⟨rfl, K12⟩
      have g0 := K12.cellN cz0
      have g1 := K12.cellN cz1
      have g2 := K12.cellN cu0
      have g3 := K12.cellN cu1
      go_wp2_with fail
      rw [← EZ.out, ← EU.out]
      refine (sameShot_of z u ((SZ10.out.sh.keepsN KW.out).keepsN K12) ((SU.out.sh.keepsN KW.out).keepsN K12) SZ10.out.tl SU.out.tl rfl HL16.out.2).mono ?_
      rintro e w13 ⟨rfl, K13⟩
      go_wp2_with fail
      go_ret
      exact ⟨rfl, ((D10.out.kept.trans KW.out).trans K12).trans K13⟩
end Go.Proofs.Ytgobakfffobpkaa
