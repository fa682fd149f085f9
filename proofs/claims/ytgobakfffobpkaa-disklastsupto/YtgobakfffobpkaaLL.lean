/- DiskLasts' walk. -/
import Derived.Test.YtgobakfffobpkaaT9
import Derived.Deep.RegionHeld3
namespace Go.Proofs.Ytgobakfffobpkaa
open Go.RowKit Dk
set_option linter.unusedVariables false
set_option linter.unusedSimpArgs false

theorem apart4 {a b c d e : Nat} {F : Nat → Nat → Prop} (h0 : ∀ k, F 0 k → a ≤ k ∧ k < b) (h1 : ∀ k, F 1 k → b ≤ k ∧ k < c) (h2 : ∀ k, F 2 k → c ≤ k ∧ k < d) (h3 : ∀ k, F 3 k → d ≤ k ∧ k < e) (l1 : b ≤ c) (l2 : c ≤ d) : ∀ i j, i < 4 → j < 4 → i ≠ j → ∀ k, F i k → ¬ F j k := by
  have key : ∀ i, i < 4 → ∀ k, F i k → [a, b, c, d].getD i 0 ≤ k ∧ k < [b, c, d, e].getD i 0 := by
    intro i hi k hk
    match i, hi with
    | 0, _ => exact h0 k hk
    | 1, _ => exact h1 k hk
    | 2, _ => exact h2 k hk
    | 3, _ => exact h3 k hk
  intro i j hi hj hne k hk1 hk2
  have k1 := key i hi k hk1
  have k2 := key j hj k hk2
  have hi' : i = 0 ∨ i = 1 ∨ i = 2 ∨ i = 3 := by omega
  have hj' : j = 0 ∨ j = 1 ∨ j = 2 ∨ j = 3 := by omega
  clear hk1 hk2 key hi hj
  rcases hi' with rfl | rfl | rfl | rfl <;> rcases hj' with rfl | rfl | rfl | rfl <;> simp at k1 k2 hne <;> omega
theorem many_new {w w1 w2 w3 w4 w5 : World} {p0 p1 p2 p3 : Nat} (k1 : Keeps no w w1) (h0 : IsD w2 p0 (fun k => w1.heap.size ≤ k ∧ k < w2.heap.size) Dk.new) (k2 : Keeps no w1 w2) (h1 : IsD w3 p1 (fun k => w2.heap.size ≤ k ∧ k < w3.heap.size) Dk.new) (k3 : Keeps no w2 w3) (h2 : IsD w4 p2 (fun k => w3.heap.size ≤ k ∧ k < w4.heap.size) Dk.new) (k4 : Keeps no w3 w4) (h3 : IsD w5 p3 (fun k => w4.heap.size ≤ k ∧ k < w5.heap.size) Dk.new) (k5 : Keeps no w4 w5) :
    Many w (w5.alloc (.cells #[pv p0, pv p1, pv p2, pv p3] 57)) (sel p0 p1 p2 p3) (fun _ => Dk.new) (sel (fun k => w1.heap.size ≤ k ∧ k < w2.heap.size) (fun k => w2.heap.size ≤ k ∧ k < w3.heap.size) (fun k => w3.heap.size ≤ k ∧ k < w4.heap.size) (fun k => w4.heap.size ≤ k ∧ k < w5.heap.size)) w5.heap.size := by
  have ka := keeps_alloc w5 (.cells #[pv p0, pv p1, pv p2, pv p3] 57)
  have s1 := k1.size
  have s2 := k2.size
  have s3 := k3.size
  have s4 := k4.size
  have s5 := k5.size
  refine ⟨fun i hi => ?_, apart4 (a := w1.heap.size) (e := w5.heap.size) (fun k hk => hk) (fun k hk => hk) (fun k hk => hk) (fun k hk => hk) s3 s4, fun i hi k hk => ?_, blk_new w5 _, fun i hi hk => ?_, ((((k1.trans k2).trans k3).trans k4).trans k5).trans ka⟩
  · match i, hi with
    | 0, _ => exact (((h0.keepsN k3).keepsN k4).keepsN k5).keepsN ka
    | 1, _ => exact ((h1.keepsN k4).keepsN k5).keepsN ka
    | 2, _ => exact (h2.keepsN k5).keepsN ka
    | 3, _ => exact h3.keepsN ka
  · match i, hi, hk with
    | 0, _, hk => have := hk.1; omega
    | 1, _, hk => have := hk.1; omega
    | 2, _, hk => have := hk.1; omega
    | 3, _, hk => have := hk.1; omega
  · match i, hi, hk with
    | 0, _, hk => have := hk.2; omega
    | 1, _, hk => have := hk.2; omega
    | 2, _, hk => have := hk.2; omega
    | 3, _, hk => have := hk.2; omega

set_option maxRecDepth 100000 in
set_option maxHeartbeats 0 in
theorem diskLasts_any (w : World) (o1 : Option Addr) (c1 : Nat) (ps : List OpV) (less more : Int) (h1 : Script w o1 ps) (hls : i64 less) (hms : i64 more) :
    Calls Try.prog 7 #[.slice o1 ps.length c1, .int .i64 less, .int .i64 more] w fun e w' => e = .returned (.bool true) ∧ Keeps no w w' := by
  obtain ⟨N1, hN1⟩ : ∃ N1, N1 = ps.length := ⟨_, rfl⟩
  rw [← hN1]
  have HN1 : Hid (N1 = ps.length) := hN1
  have l1 : N1 ≤ 1048576 := by have := h1.len; omega
  have H1 : Hid (Script w o1 ps) := h1
  have and1 := i64_and65535 less
  have and2 := i64_and65535 more
  obtain ⟨LS, hLS⟩ : ∃ LS, LS = less % 65536 := ⟨_, rfl⟩
  obtain ⟨MS, hMS⟩ : ∃ MS, MS = more % 65536 := ⟨_, rfl⟩
  rw [← hLS] at and1
  rw [← hMS] at and2
  have ls1 : 0 ≤ LS := by omega
  have ls2 : LS ≤ 65535 := by omega
  have ms1 : 0 ≤ MS := by omega
  have ms2 : MS ≤ 65535 := by omega
  clear hN1 h1 hLS hMS hls hms
  go_enter Try.func7, Try.ntmps7
  go_wp2_with fail
  refine (alive_any w).mono ?_
  rintro e w1 ⟨rfl, hk1⟩
  go_wp2_with fail
  refine (new_any w1).mono ?_
  rintro e w2 ⟨p0, rfl, h2, hk2⟩
  go_wp2_with fail
  refine (new_any w2).mono ?_
  rintro e w3 ⟨p1, rfl, h3, hk3⟩
  go_wp2_with fail
  refine (new_any w3).mono ?_
  rintro e w4 ⟨p2, rfl, h4, hk4⟩
  go_wp2_with fail
  refine (new_any w4).mono ?_
  rintro e w5 ⟨p3, rfl, h5, hk5⟩
  have D0 := many_new hk1 h2 hk2 h3 hk3 h4 hk4 h5 hk5
  obtain ⟨P, hP⟩ : ∃ P, P = sel p0 p1 p2 p3 := ⟨_, rfl⟩
  rw [← hP] at D0
  obtain ⟨W, hW⟩ : ∃ W, W = w5.alloc (.cells #[pv p0, pv p1, pv p2, pv p3] 57) := ⟨_, rfl⟩
  obtain ⟨A, hA⟩ : ∃ A, A = w5.heap.size := ⟨_, rfl⟩
  rw [← hW, ← hA] at D0
  obtain ⟨F, D1⟩ : ∃ F, Hid (Many w W P (fun _ => Dk.new) F A) := ⟨_, D0⟩
  have HP : Hid (P = sel p0 p1 p2 p3) := hP
  clear hk1 h2 hk2 h3 hk3 h4 hk4 h5 hk5 D0 hP
  go_wp2_with fail
  rw [show w5.alloc (.cells #[.pointer (some ⟨p0, 0, none⟩), .pointer (some ⟨p1, 0, none⟩), .pointer (some ⟨p2, 0, none⟩), .pointer (some ⟨p3, 0, none⟩)] 57) = W from hW.symm, ← hA]
  clear hW hA
  go_loopw [8] (fun i wr => ∃ (k : Nat) (F : Nat → Nat → Prop), k ≤ 4 ∧ i = .int .i64 k ∧ Hid (Many w wr P (fun i => if i < k then rn ps N1 else Dk.new) F A)) (fun i _ => 4 - (intOf i).toNat)
  case atStart => exact ⟨0, F, by omega, rfl, D1.out.congr (fun i hi => rfl)⟩
  case round =>
    clear D1 F
    obtain ⟨k, F, hk, rfl, HD⟩ := hrel
    by_cases hlt : k < 4
    · have hlt4 : (k : Int) < 4 := by omega
      have hlt5 : decide ((k : Int) < 4) = true := by simpa using hlt4
      have a0 : wr.cell? ⟨A, k, none⟩ = some (.pointer (some ⟨P k, 0, none⟩)) := HD.out.at hlt
      have HD0 : Hid (Many w wr P (fun i => if i < k then rn ps N1 else if i = k then rn ps 0 else Dk.new) F A) := HD.out.congr (fun i hi => by
        by_cases h1 : i < k
        · simp [h1]
        · by_cases h2 : i = k
          · simp [h1, h2, rn_zero]
          · simp [h1, h2])
      go_wp2_with fail
      clear HD a0
      go_loopw [9] (fun i wq => ∃ (j : Nat) (F : Nat → Nat → Prop), j ≤ N1 ∧ i = .int .i64 j ∧ Hid (Many w wq P (fun i => if i < k then rn ps N1 else if i = k then rn ps j else Dk.new) F A ∧ Room (j * 4194304) (rn ps j))) (fun i _ => N1 - (intOf i).toNat)
      case atStart => exact ⟨0, F, by omega, rfl, ⟨HD0.out, room_new _⟩⟩
      case round =>
        rename World => wq
        clear HD0 F
        obtain ⟨j, F, hj, rfl, HD⟩ := hrel
        by_cases hlj : j < N1
        · have hks : j < ps.length := by have := HN1.out; omega
          have a0 : wq.cell? ⟨A, k, none⟩ = some (.pointer (some ⟨P k, 0, none⟩)) := HD.out.1.at hlt
          obtain ⟨b, off, rfl, hC⟩ := H1.out.at hks
          have hok := H1.out.ok _ (getD_mem ps j op0 hks)
          have hrs := rn_succ ps hks
          obtain ⟨o, ho⟩ : ∃ o, o = ps.getD j op0 := ⟨_, rfl⟩
          rw [← ho] at hC hok hrs
          obtain ⟨nb, hnb⟩ : ∃ nb, nb = o.bs.length := ⟨_, rfl⟩
          rw [← hnb] at hC
          have HOC : Hid (o.cells = #[.int .i64 o.kind, .int .i64 o.who, .string o.nm, .string o.tn, .slice o.ob nb o.cb, .int .i64 o.N, .int .i64 o.K]) := (show _ = _ by rw [OpV.cells, hnb])
          have HOK : Hid (o.ok w) := hok
          have HRS : Hid (rn ps (j + 1) = lastS (rn ps j) o) := hrs
          have HM : Hid (j * 4194304 ≤ 70368744177664) := (show _ ≤ _ by omega)
          have HC0 : Hid (C7 w b (off + j * 7) o nb) := hC
          have ok1 := hok.k.1
          have ok2 := hok.k.2
          obtain ⟨e0, e1, e2, e3, e4, e5, e6⟩ := hC.keepsN HD.out.1.kept
          clear hC hok ho hnb hks hrs
          by_cases hk9 : o.kind < 9
          · have HIS : Hid (IsD wq (P k) (F k) (rn ps j)) := (show IsD wq (P k) (F k) (rn ps j) by
              have := HD.out.1.is k hlt
              simpa using this)
            go_wp2_with fail
            go_region_held3 (fun w' => w'.cell? ⟨A, k, none⟩ = some (.pointer (some ⟨P k, 0, none⟩)) ∧ w'.cell? ⟨b, off + j * 7, none⟩ = some (.int .i64 o.kind) ∧ w'.cell? ⟨b, off + j * 7 + 1, none⟩ = some (.int .i64 o.who) ∧ w'.cell? ⟨b, off + j * 7 + 2, none⟩ = some (.string o.nm) ∧ w'.cell? ⟨b, off + j * 7 + 3, none⟩ = some (.string o.tn) ∧ w'.cell? ⟨b, off + j * 7 + 4, none⟩ = some (.slice o.ob nb o.cb) ∧ w'.cell? ⟨b, off + j * 7 + 5, none⟩ = some (.int .i64 o.N) ∧ w'.cell? ⟨b, off + j * 7 + 6, none⟩ = some (.int .i64 o.K)) (go_keep) ((go_at_call 24; rw [← HOC.out]; refine (does_any _ (P k) (F k) (rn ps j) o (HIS.out.keepsN (Keeps.refl no wq).drew) (HOK.out.keepsN (HD.out.1.kept.trans (Keeps.refl no wq).drew)) _ HD.out.2 HM.out).mono ?_; rintro e w6 ⟨rfl, h6, hk6⟩; have D6 : Hid (Many w w6 P (fun i => if i < k then rn ps N1 else if i = k then rn ps (j + 1) else Dk.new) (up1 F k (grow (F k) wq.drew w6)) A) := (HD.out.1.beside (Keeps.refl no wq).drew).grow hlt h6 hk6 (fun i hi => by rw [HRS.out, lastS, if_pos hk9]; by_cases q1 : i = k; (subst q1; simp); simp [q1]); have x7 : w6.cell? ⟨A, k, none⟩ = some (.pointer (some ⟨P k, 0, none⟩)) := D6.out.at hlt; obtain ⟨x0, x1, x2, x3, x4, x5, x6⟩ := HC0.out.keepsN D6.out.kept; clear h6 hk6))
            clear x0 x1 x2 x3 x4 x5 x6 x7 e0 e1 e2 e3 e4 e5 e6
            go_wp2_with fail
            go_roundw
            case rel => exact ⟨j + 1, _, by omega, by go_num, ⟨D6.out, by rw [HRS.out, lastS, if_pos hk9]; exact doesOn_room' HD.out.2 HOK.out.len⟩⟩
            case measure => simp [intOf]; omega
          · go_wp2_with fail
            go_roundw
            case rel =>
              have e : rn ps (j + 1) = rn ps j := by rw [HRS.out, lastS, if_neg hk9]
              exact ⟨j + 1, F, by omega, by go_num, ⟨by rw [e]; exact HD.out.1, by rw [e]; exact HD.out.2.mono (by omega)⟩⟩
            case measure => simp [intOf]; omega
        · have hjn : j = N1 := by omega
          subst hjn
          go_wp2_with fail
          go_roundw
          case rel =>
            refine ⟨k + 1, F, by omega, by go_num, HD.out.1.congr (fun i hi => ?_)⟩
            by_cases q1 : i < k
            · simp [q1, Nat.lt_succ_of_lt q1]
            · by_cases q2 : i = k
              · subst q2; simp
              · have : ¬ i < k + 1 := by omega
                simp [q1, q2, this]
          case measure => simp [intOf]; omega
    · have hk4 : k = 4 := by omega
      subst hk4
      obtain ⟨Z, hZ⟩ : ∃ Z, Z = rn ps N1 := ⟨_, rfl⟩
      have HQ : Hid (Quiet Z) := (show Quiet Z by rw [hZ]; exact rn_quiet ps N1)
      have HM : Hid (N1 * 4194304 ≤ 70368744177664) := (show _ ≤ _ by omega)
      have HR : Hid (Room (N1 * 4194304) Z) := (show Room _ Z by rw [hZ]; exact rn_room ps (fun o ho => (H1.out.ok o ho).len) N1 (by have := HN1.out; omega))
      have D2 : Hid (Many w wr P (fun _ => Z) F A) := HD.out.congr (fun i hi => by simp [hi, hZ])
      have HOK : Hid (Ok Z) := (D2.out.is 0 (by omega)).ok
      have HLF : Hid (∀ i, i < 4 → ∀ k, F i k → k < wr.heap.size) := (show _ from fun i hi k hk => (D2.out.is i hi).lt k hk)
      have a0 : wr.cell? ⟨A, 0, none⟩ = some (.pointer (some ⟨P 0, 0, none⟩)) := D2.out.at (i := 0) (by omega)
      clear hZ HD hlt hk
      go_wp2_with fail
      refine (md_shot (i := 0) (by omega) _ wr.heap.size (S' := fun _ => Z) D2.out HR.out HM.out (Nat.le_refl _) (fun j hj => by simp [HQ.out.up])).mono ?_
      rintro e w5 ⟨x, nx, mx, rfl, HX, D5, K5⟩
      rw [HQ.out.up] at HX
      have HX0 : Hid (Hs (w5.alloc (.cells #[.slice x.on nx x.cn, .slice x.ob mx x.cb] 48)) wr.heap.size w5.heap.size x nx mx Z) := HX.out
      have D6 : Hid (Many w (w5.alloc (.cells #[.slice x.on nx x.cn, .slice x.ob mx x.cb] 48)) P (sel Z Z Z (syn 0 Z)) F A) := (D5.out.beside (keeps_alloc w5 _)).congr (fun i hi => by rw [syn_zero]; match i, hi with | 0, _ => rfl | 1, _ => rfl | 2, _ => rfl | 3, _ => rfl)
      have HNX : Hid (nx = Z.fs.length) := HX0.out.lens.1
      have nx16 : nx ≤ 16 := by have := HOK.out.len; have := HNX.out; omega
      clear HX D5 K5 a0 D2
      go_wp2_with fail
      obtain ⟨hx, hhx⟩ : ∃ hx, hx = w5.heap.size := ⟨_, rfl⟩
      rw [← hhx] at HX0 ⊢
      clear hhx
      go_loopw [12] (fun i wq => ∃ (j : Nat), j ≤ nx ∧ i = .int .i64 j ∧ Hid (Many w wq P (sel Z Z Z (syn j Z)) F A ∧ Hs wq wr.heap.size hx x nx mx Z)) (fun i _ => nx - (intOf i).toNat)
      case atStart => exact ⟨0, by omega, rfl, ⟨D6.out, HX0.out⟩⟩
      case round =>
        rename World => wq
        clear D6 HX0
        obtain ⟨j, hj, rfl, HD⟩ := hrel
        have h0 : wq.cell? ⟨hx, 0, none⟩ = some (.slice x.on nx x.cn) := cell_of_blk HD.out.2.blk 0
        by_cases hlj : j < nx
        · have hjl : j < Z.fs.length := by have := HNX.out; omega
          obtain ⟨g, hg, hcl⟩ := own_t HD.out.2.sh.names (by rw [HD.out.2.tl.lens.1]; omega)
          rw [hg] at h0
          obtain ⟨nm, hnm⟩ : ∃ nm, nm = ((names Z.fs).map mkT).getD j e0 := ⟨_, rfl⟩
          have d0 : wq.cell? ⟨g, j, none⟩ = some (.string nm) := by
            have := (hcl j (by rw [HD.out.2.tl.lens.1]; omega)).1
            rw [HD.out.2.tl.nm, ← hnm] at this
            exact this
          have a3 : wq.cell? ⟨A, 3, none⟩ = some (.pointer (some ⟨P 3, 0, none⟩)) := HD.out.1.at (i := 3) (by omega)
          have his : Hid (IsD wq (P 3) (F 3) (syn j Z)) := HD.out.1.is 3 (by omega)
          have hsn : Hid (counted (syn j Z) (syncOn nm.data.toList) = (syn (j + 1) Z, 0)) := (show _ = _ by rw [(HQ.out.syn j).cnt, syn_next his.out.ok hjl hnm])
          have hnm2 : Hid (nm.size ≤ maxLen) := (show _ ≤ _ by obtain ⟨f, _, _, h32, _⟩ := name_at HOK.out hjl hnm; unfold maxLen; omega)
          have HGL : Hid (wr.heap.size ≤ g) := HD.out.2.ft g (.inl ⟨_, hg, rfl⟩)
          have HG : Hid (x.on = some ⟨g, 0, none⟩) := hg
          clear hjl hcl hnm hg
          go_wp2_with fail
          go_region_held3 (fun w' => w'.cell? ⟨A, 3, none⟩ = some (.pointer (some ⟨P 3, 0, none⟩)) ∧ w'.cell? ⟨hx, 0, none⟩ = some (.slice (some ⟨g, 0, none⟩) nx x.cn) ∧ w'.cell? ⟨g, j, none⟩ = some (.string nm)) (go_keep) ((go_at_call 13; refine (sync_any _ (P 3) (F 3) (syn j Z) nm (his.out.keepsN (Keeps.refl no wq).drew) hnm2.out).mono ?_; rw [hsn.out]; rintro e w6 ⟨rfl, h6, hk6⟩; have D6 : Hid (Many w w6 P (sel Z Z Z (syn (j + 1) Z)) F A ∧ Hs w6 wr.heap.size hx x nx mx Z) := ⟨(HD.out.1.beside (Keeps.refl no wq).drew).same (i := 3) (by omega) h6 hk6 (fun i hi => by match i, hi with | 0, _ => rfl | 1, _ => rfl | 2, _ => rfl | 3, _ => rfl), (HD.out.2.keepsN (Keeps.refl no wq).drew).keeps hk6 (fun k hk => HLF.out 3 (by omega) k hk)⟩; have x0 : w6.cell? ⟨A, 3, none⟩ = some (.pointer (some ⟨P 3, 0, none⟩)) := D6.out.1.at (i := 3) (by omega); have x1 : w6.cell? ⟨hx, 0, none⟩ = some (.slice (some ⟨g, 0, none⟩) nx x.cn) := by { have := cell_of_blk D6.out.2.blk 0; rw [HG.out] at this; exact this }; have x2 := hk6.cell (show wq.drew.cell? ⟨g, j, none⟩ = some (.string nm) from d0) (fun h => by have := HLF.out 3 (by omega) g h; have := HGL.out; omega); clear h6 hk6))
          clear x0 x1 x2 d0 a3 his hsn hnm2 HGL
          go_wp2_with fail
          go_roundw
          case rel => exact ⟨j + 1, by omega, by go_num, D6.out⟩
          case measure => simp [intOf]; omega
        · have hjn : j = nx := by omega
          subst j
          have HL0 : Hid (wr.heap.size ≤ wq.heap.size) := (show _ ≤ _ by have := HD.out.2.hl; have := lt_of_block HD.out.2.blk; omega)
          have a1 : wq.cell? ⟨A, 1, none⟩ = some (.pointer (some ⟨P 1, 0, none⟩)) := HD.out.1.at (i := 1) (by omega)
          clear hlj hj
          go_wp2_with fail
          refine (md_crash (i := 1) (by omega) LS (S' := sel Z (crash LS Z) Z (syn nx Z)) HD.out.1 (by unfold i64; omega) (fun j hj => by match j, hj with | 0, _ => rfl | 1, _ => rfl | 2, _ => rfl | 3, _ => rfl)).mono ?_
          rintro e w6 ⟨rfl, D6, K6⟩
          have X6 : Hid (Hs w6 wr.heap.size hx x nx mx Z) := HD.out.2.keeps K6.out (HLF.out 1 (by omega))
          have HL6 : Hid (wr.heap.size ≤ w6.heap.size) := Nat.le_trans HL0.out K6.out.size
          have a2 : w6.cell? ⟨A, 2, none⟩ = some (.pointer (some ⟨P 2, 0, none⟩)) := D6.out.at (i := 2) (by omega)
          clear K6 HD a1 HL0 h0
          go_wp2_with fail
          refine (md_crash (i := 2) (by omega) (LS + MS) (S' := sel Z (crash LS Z) (crash (LS + MS) Z) (syn nx Z)) D6.out (by unfold i64; omega) (fun j hj => by match j, hj with | 0, _ => rfl | 1, _ => rfl | 2, _ => rfl | 3, _ => rfl)).mono ?_
          rintro e w7 ⟨rfl, D7, K7⟩
          have X7 : Hid (Hs w7 wr.heap.size hx x nx mx Z) := X6.out.keeps K7.out (HLF.out 2 (by omega))
          have HL7 : Hid (wr.heap.size ≤ w7.heap.size) := Nat.le_trans HL6.out K7.out.size
          have a3 : w7.cell? ⟨A, 3, none⟩ = some (.pointer (some ⟨P 3, 0, none⟩)) := D7.out.at (i := 3) (by omega)
          clear K7 D6 X6 a2 HL6
          go_wp2_with fail
          refine (md_crash (i := 3) (by omega) 0 (S' := sel Z (crash LS Z) (crash (LS + MS) Z) (crash 0 (syn nx Z))) D7.out (by unfold i64; omega) (fun j hj => by match j, hj with | 0, _ => rfl | 1, _ => rfl | 2, _ => rfl | 3, _ => rfl)).mono ?_
          rintro e w8 ⟨rfl, D8, K8⟩
          have X8 : Hid (Hs w8 wr.heap.size hx x nx mx Z) := X7.out.keeps K8.out (HLF.out 3 (by omega))
          have HL8 : Hid (wr.heap.size ≤ w8.heap.size) := Nat.le_trans HL7.out K8.out.size
          have a1 : w8.cell? ⟨A, 1, none⟩ = some (.pointer (some ⟨P 1, 0, none⟩)) := D8.out.at (i := 1) (by omega)
          have a2 : w8.cell? ⟨A, 2, none⟩ = some (.pointer (some ⟨P 2, 0, none⟩)) := D8.out.at (i := 2) (by omega)
          have a3 : w8.cell? ⟨A, 3, none⟩ = some (.pointer (some ⟨P 3, 0, none⟩)) := D8.out.at (i := 3) (by omega)
          clear K8 D7 X7 HL7
          go_wp2_with fail
          refine (down_any _ (P 1) (F 1) (crash LS Z) (D8.out.is 1 (by omega))).mono ?_
          rintro e w9 ⟨rfl, hw⟩
          subst w9
          rw [crash_off]
          go_wp2_with fail
          refine (down_any _ (P 2) (F 2) (crash (LS + MS) Z) (D8.out.is 2 (by omega))).mono ?_
          rintro e w9 ⟨rfl, hw⟩
          subst w9
          rw [crash_off]
          go_wp2_with fail
          refine (down_any _ (P 3) (F 3) (crash 0 (syn nx Z)) (D8.out.is 3 (by omega))).mono ?_
          rintro e w9 ⟨rfl, hw⟩
          subst w9
          rw [crash_off]
          have HRs : Hid (Room (N1 * 4194304) (crash LS Z) ∧ Room (N1 * 4194304) (crash (LS + MS) Z) ∧ Room (N1 * 4194304) (crash 0 (syn nx Z))) := ⟨HR.out.crash, HR.out.crash, (HR.out.syn nx).crash⟩
          go_wp2_with fail
          refine (md_shot (i := 1) (by omega) _ wr.heap.size (S' := sel Z (up (crash LS Z)) (crash (LS + MS) Z) (crash 0 (syn nx Z))) D8.out HRs.out.1 HM.out HL8.out (fun j hj => by match j, hj with | 0, _ => rfl | 1, _ => rfl | 2, _ => rfl | 3, _ => rfl)).mono ?_
          rintro e w9 ⟨a, na, ma, rfl, Ha, D9, K9⟩
          have X9 : Hid (Hs w9 wr.heap.size _ x nx mx Z) := X8.out.keeps K9.out (HLF.out 1 (by omega))
          have HL9 : Hid (wr.heap.size ≤ w9.heap.size) := Nat.le_trans HL8.out K9.out.size
          have q1 := (keeps_alloc w9 (.cells #[.slice a.on na a.cn, .slice a.ob ma a.cb] 48)).cellN (show w9.cell? ⟨A, 2, none⟩ = some (.pointer (some ⟨P 2, 0, none⟩)) from D9.out.at (i := 2) (by omega))
          go_wp2_with fail
          refine (md_shot (i := 2) (by omega) _ wr.heap.size (S' := sel Z (up (crash LS Z)) (up (crash (LS + MS) Z)) (crash 0 (syn nx Z))) (D9.out.beside (keeps_alloc w9 _)) HRs.out.2.1 HM.out (Nat.le_trans HL9.out (keeps_alloc w9 (.cells #[.slice a.on na a.cn, .slice a.ob ma a.cb] 48)).size) (fun j hj => by match j, hj with | 0, _ => rfl | 1, _ => rfl | 2, _ => rfl | 3, _ => rfl)).mono ?_
          rintro e w10 ⟨b, nb, mb, rfl, Hb, D10, K10⟩
          have X10 : Hid (Hs w10 wr.heap.size _ x nx mx Z) := (X9.out.keepsN (keeps_alloc w9 (.cells #[.slice a.on na a.cn, .slice a.ob ma a.cb] 48))).keeps K10.out (HLF.out 2 (by omega))
          have A10 : Hid (Hs w10 wr.heap.size _ a na ma (up (crash LS Z))) := Ha.out.keeps K10.out (HLF.out 2 (by omega))
          have HL10 : Hid (wr.heap.size ≤ w10.heap.size) := Nat.le_trans (Nat.le_trans HL9.out (keeps_alloc w9 (.cells #[.slice a.on na a.cn, .slice a.ob ma a.cb] 48)).size) K10.out.size
          have q2 := (keeps_alloc w10 (.cells #[.slice b.on nb b.cn, .slice b.ob mb b.cb] 48)).cellN (show w10.cell? ⟨A, 3, none⟩ = some (.pointer (some ⟨P 3, 0, none⟩)) from D10.out.at (i := 3) (by omega))
          go_wp2_with fail
          refine (md_shot (i := 3) (by omega) _ wr.heap.size (S' := sel Z (up (crash LS Z)) (up (crash (LS + MS) Z)) (up (crash 0 (syn nx Z)))) (D10.out.beside (keeps_alloc w10 _)) HRs.out.2.2 HM.out (Nat.le_trans HL10.out (keeps_alloc w10 (.cells #[.slice b.on nb b.cn, .slice b.ob mb b.cb] 48)).size) (fun j hj => by match j, hj with | 0, _ => rfl | 1, _ => rfl | 2, _ => rfl | 3, _ => rfl)).mono ?_
          rintro e w11 ⟨c, nc, mc, rfl, Hc, D11, K11⟩
          have X11 : Hid (Hs w11 wr.heap.size _ x nx mx Z) := (X10.out.keepsN (keeps_alloc w10 (.cells #[.slice b.on nb b.cn, .slice b.ob mb b.cb] 48))).keeps K11.out (HLF.out 3 (by omega))
          have A11 : Hid (Hs w11 wr.heap.size _ a na ma (up (crash LS Z))) := (A10.out.keepsN (keeps_alloc w10 (.cells #[.slice b.on nb b.cn, .slice b.ob mb b.cb] 48))).keeps K11.out (HLF.out 3 (by omega))
          have B11 : Hid (Hs w11 wr.heap.size _ b nb mb (up (crash (LS + MS) Z))) := Hb.out.keeps K11.out (HLF.out 3 (by omega))
          have HL11 : Hid (wr.heap.size ≤ w11.heap.size) := Nat.le_trans (Nat.le_trans HL10.out (keeps_alloc w10 (.cells #[.slice b.on nb b.cn, .slice b.ob mb b.cb] 48)).size) K11.out.size
          have KV : Hid (Keeps no w11 (w11.alloc (.cells #[.slice c.on nc c.cn, .slice c.ob mc c.cb] 48))) := keeps_alloc w11 _
          have X12 : Hid (Hs (w11.alloc (.cells #[.slice c.on nc c.cn, .slice c.ob mc c.cb] 48)) wr.heap.size hx x nx mx Z) := X11.out.keepsN KV.out
          have A12 : Hid (Hs (w11.alloc (.cells #[.slice c.on nc c.cn, .slice c.ob mc c.cb] 48)) wr.heap.size w9.heap.size a na ma (up (crash LS Z))) := A11.out.keepsN KV.out
          have B12 : Hid (Hs (w11.alloc (.cells #[.slice c.on nc c.cn, .slice c.ob mc c.cb] 48)) wr.heap.size w10.heap.size b nb mb (up (crash (LS + MS) Z))) := B11.out.keepsN KV.out
          have C12 : Hid (Hs (w11.alloc (.cells #[.slice c.on nc c.cn, .slice c.ob mc c.cb] 48)) wr.heap.size w11.heap.size c nc mc (up (crash 0 (syn nx Z)))) := Hc.out
          have LA : Hid (Left a Z LS) := left_of A12.out.tl HQ.out.off
          have LB : Hid (Left b Z (LS + MS)) := left_of B12.out.tl HQ.out.off
          have lenC : ∀ k, (up (crash k Z)).fs.length = Z.fs.length := fun k => by show (crash k Z).fs.length = _; rw [crash_fs HQ.out.off, length_mapv]
          obtain rfl : nx = na := by rw [A12.out.lens.1, lenC]; exact HNX.out
          obtain rfl : nx = ma := by rw [A12.out.lens.2, lenC]; exact HNX.out
          obtain rfl : nx = nb := by rw [B12.out.lens.1, lenC]; exact HNX.out
          obtain rfl : nx = mb := by rw [B12.out.lens.2, lenC]; exact HNX.out
          obtain rfl : nx = mx := by rw [X12.out.lens.2]; exact HNX.out
          have av0 := cell_of_blk A12.out.blk 0
          have bv0 := cell_of_blk B12.out.blk 0
          have xv0 := cell_of_blk X12.out.blk 0
          have HCX : Hid (c.nm = x.nm ∧ c.ls.map (·.xs) = x.ls.map (·.xs)) := lasts_all HQ.out HNX.out C12.out.tl X12.out.tl
          clear lenC Ha Hb Hc X8 X9 X10 X11 A10 A11 B11 q1 q2 a1 a2 a3
          go_wp2_with fail
          refine (sameS_any _ a.on nx a.cn x.on nx x.cn a.nm x.nm (by rw [LA.out.nm]; simp [names]; exact HNX.out) (by rw [X12.out.tl.nm]; simp [names]; exact HNX.out) (by rw [LA.out.nm]; simp [names]; have := HNX.out; omega) (by rw [X12.out.tl.nm]; simp [names]; have := HNX.out; omega) A12.out.sh.names.sl X12.out.sh.names.sl).mono ?_
          rintro e w12 ⟨⟨B0, rfl, hB0⟩, K12⟩
          obtain rfl : B0 = true := hB0.out.2 (by rw [LA.out.nm, X12.out.tl.nm])
          have bv2 := K12.cellN bv0
          have xv2 := K12.cellN xv0
          clear hB0
          go_wp2_with fail
          refine (sameS_any _ b.on nx b.cn x.on nx x.cn b.nm x.nm (by rw [LB.out.nm]; simp [names]; exact HNX.out) (by rw [X12.out.tl.nm]; simp [names]; exact HNX.out) (by rw [LB.out.nm]; simp [names]; have := HNX.out; omega) (by rw [X12.out.tl.nm]; simp [names]; have := HNX.out; omega) (B12.out.sh.names.sl.keepsN K12) (X12.out.sh.names.sl.keepsN K12)).mono ?_
          rintro e w13 ⟨⟨B1, rfl, hB1⟩, K13⟩
          obtain rfl : B1 = true := hB1.out.2 (by rw [LB.out.nm, X12.out.tl.nm])
          have K13' : Hid (Keeps no (w11.alloc (.cells #[.slice c.on nc c.cn, .slice c.ob mc c.cb] 48)) w13) := K12.trans K13
          have X13 : Hid (Hs w13 wr.heap.size hx x nx nx Z) := X12.out.keepsN K13'.out
          have A13 : Hid (Hs w13 wr.heap.size w9.heap.size a nx nx (up (crash LS Z))) := A12.out.keepsN K13'.out
          have B13 : Hid (Hs w13 wr.heap.size w10.heap.size b nx nx (up (crash (LS + MS) Z))) := B12.out.keepsN K13'.out
          have C13 : Hid (Hs w13 wr.heap.size w11.heap.size c nc mc (up (crash 0 (syn nx Z)))) := C12.out.keepsN K13'.out
          have D13 : Hid (Many w w13 P (sel Z (up (crash LS Z)) (up (crash (LS + MS) Z)) (up (crash 0 (syn nx Z)))) F A) := (D11.out.beside KV.out).beside K13'.out
          have xc0 := cell_of_blk X13.out.blk 0
          have xc1 := cell_of_blk X13.out.blk 1
          have cc0 := cell_of_blk C13.out.blk 0
          have cc1 := cell_of_blk C13.out.blk 1
          clear hB1 K12 K13 X12 A12 B12 C12 av0 bv0 xv0 bv2 xv2 D8 D9 D10
          go_wp2_with fail
          rw [← C13.out.ec, ← X13.out.ec]
          refine (sameShot_yes _ c x C13.out.sh X13.out.sh HCX.out.1 HCX.out.2 (by rw [HCX.out.1, X13.out.tl.lens.1]; exact HOK.out.len) (by rw [C13.out.tl.lens.2]; exact ((D13.out.is 3 (by omega)).ok.len)) ).mono ?_
          rintro e w14 ⟨rfl, K14⟩
          have X14 : Hid (Hs w14 wr.heap.size hx x nx nx Z) := X13.out.keepsN K14
          have A14 : Hid (Hs w14 wr.heap.size w9.heap.size a nx nx (up (crash LS Z))) := A13.out.keepsN K14
          have B14 : Hid (Hs w14 wr.heap.size w10.heap.size b nx nx (up (crash (LS + MS) Z))) := B13.out.keepsN K14
          have D14 : Hid (Many w w14 P (sel Z (up (crash LS Z)) (up (crash (LS + MS) Z)) (up (crash 0 (syn nx Z)))) F A) := D13.out.beside K14
          obtain ⟨ha, hha⟩ : ∃ ha, ha = w9.heap.size := ⟨_, rfl⟩
          obtain ⟨hb, hhb⟩ : ∃ hb, hb = w10.heap.size := ⟨_, rfl⟩
          rw [← hha] at A14 ⊢
          rw [← hhb] at B14 ⊢
          clear K14 X13 A13 B13 C13 D13 xc0 xc1 cc0 cc1 hha hhb HCX
          have xc0 := cell_of_blk X14.out.blk 0
          go_wp2_with fail
          go_loopw [19] (fun i wq => ∃ (j : Nat), j ≤ nx ∧ i = .int .i64 j ∧ Hid (Keeps no w14 wq)) (fun i _ => nx - (intOf i).toNat)
          case atStart => exact ⟨0, by omega, rfl, Keeps.refl _ _⟩
          case round =>
            rename World => wu
            obtain ⟨j, hj, rfl, KU⟩ := hrel
            have xc0 := KU.out.cellN xc0
            by_cases hlj : j < nx
            · have hjl : j < Z.fs.length := by have := HNX.out; omega
              have lenC : ∀ k, (up (crash k Z)).fs.length = Z.fs.length := fun k => by show (crash k Z).fs.length = _; rw [crash_fs HQ.out.off, length_mapv]
              obtain ⟨bx, fx, ex, cx, Ox⟩ := (X14.out.keepsN KU.out).row (j := j) (by exact hjl)
              have xh : wu.cell? ⟨hx, 1, none⟩ = some (.slice x.ob nx x.cb) := KU.out.cellN (cell_of_blk X14.out.blk 1)
              rw [ex] at xh
              obtain ⟨ba, fa, ea, ca, Oa⟩ := (A14.out.keepsN KU.out).row (j := j) (by rw [lenC]; exact hjl)
              have ah : wu.cell? ⟨ha, 1, none⟩ = some (.slice a.ob nx a.cb) := KU.out.cellN (cell_of_blk A14.out.blk 1)
              rw [ea] at ah
              obtain ⟨bb, fb, eb, cb, Ob⟩ := (B14.out.keepsN KU.out).row (j := j) (by rw [lenC]; exact hjl)
              have bh : wu.cell? ⟨hb, 1, none⟩ = some (.slice b.ob nx b.cb) := KU.out.cellN (cell_of_blk B14.out.blk 1)
              rw [eb] at bh
              have tX := X14.out.tl.at hjl
              have tA := LA.out.at hjl
              have tB := LB.out.at hjl
              have hsy := HOK.out.sy _ (List.getElem_mem hjl)
              have hrm := HR.out _ (List.getElem_mem hjl)
              obtain ⟨fl, hfl⟩ : ∃ fl, fl = (Z.fs[j]).2 := ⟨_, rfl⟩
              rw [← hfl] at tX tA tB hsy hrm
              obtain ⟨Jx, hJx⟩ : ∃ J, J = x.ls.getD j ls0 := ⟨_, rfl⟩
              rw [← hJx] at cx Ox tX
              obtain ⟨lx, hlx⟩ : ∃ l, l = Jx.xs.length := ⟨_, rfl⟩
              rw [← hlx] at cx
              have HJx : Hid (lx = Jx.xs.length) := hlx
              have HOx : Hid (Own BE wu Jx.o Jx.c Jx.xs) := Ox
              obtain ⟨Ja, hJa⟩ : ∃ J, J = a.ls.getD j ls0 := ⟨_, rfl⟩
              rw [← hJa] at ca Oa tA
              obtain ⟨la, hla⟩ : ∃ l, l = Ja.xs.length := ⟨_, rfl⟩
              rw [← hla] at ca
              have HJa : Hid (la = Ja.xs.length) := hla
              have HOa : Hid (Own BE wu Ja.o Ja.c Ja.xs) := Oa
              obtain ⟨Jb, hJb⟩ : ∃ J, J = b.ls.getD j ls0 := ⟨_, rfl⟩
              rw [← hJb] at cb Ob tB
              obtain ⟨lb, hlb⟩ : ∃ l, l = Jb.xs.length := ⟨_, rfl⟩
              rw [← hlb] at cb
              have HJb : Hid (lb = Jb.xs.length) := hlb
              have HOb : Hid (Own BE wu Jb.o Jb.c Jb.xs) := Ob
              obtain ⟨q1, q2, q3, q4⟩ := cut_two (a := LS) (b := MS) hsy ls1 ms1
              have la' : la = cutN LS fl := by rw [hla, tA, List.length_take]; omega
              have lb' : lb = cutN (LS + MS) fl := by rw [hlb, tB, List.length_take]; omega
              have lx' : lx = fl.bs.length := by rw [hlx, tX]
              have HB1 : Hid (begB Ja.xs Jb.xs = true ∧ begB Jb.xs Jx.xs = true) := ⟨by rw [tA, tB]; exact begB_two q1 q2, by rw [tB, tX]; exact begB_take _ _⟩
              have b1 : la ≤ lb := by omega
              have b2 : lb ≤ lx := by omega
              have b3 : (lb : Int) - (la : Int) ≤ MS := by omega
              have b4 : lx ≤ 70368744177664 := by have := HM.out; omega
              have b5 : lb < lx → (lb : Int) - (la : Int) = MS := by intro h; rw [la', lb']; exact q4 (by omega)
              clear tX tA tB hsy hrm hfl hJx hJa hJb hlx hla hlb q1 q2 q3 q4 la' lb' lx' Ox Oa Ob ex ea eb lenC hjl
              have W1 : IntKind.i64.wrap MS = MS := by rw [IntKind.wrap_i64]; omega
              have W2 : IntKind.i64.wrap ((lb : Int) - (la : Int)) = (lb : Int) - (la : Int) := by rw [IntKind.wrap_i64]; omega
              have W3 : IntKind.i64.wrap (LS + MS - LS) = MS := by rw [IntKind.wrap_i64]; omega
              have W4 : LS + MS - LS = MS := by omega
              have T1 : decide (MS < (lb : Int) - (la : Int)) = false := by simp; omega
              by_cases hlw : lb < lx
              · have b6 := b5 hlw
                have T2 : decide ((lb : Int) < (lx : Int)) = true := by simp; omega
                have T3 : ((lb : Int) - (la : Int) == MS) = true := by simpa using b6
                clear b5 b6
                go_wp2_with fail
                go_quiet ((first | (go_at_call_of 20 (Value.slice Ja.o la Ja.c); refine Calls.quiet_of_same (begins_yes _ Ja.o la Ja.c Jb.o lb Jb.c Ja.xs Jb.xs HJa.out HJb.out ?_ ?_ (by rw [← HJa.out]; omega) (by rw [← HJb.out]; omega) HB1.out.1); exact HOa.out.row.keepsN ((Keeps.refl no wu).drewN _); exact HOb.out.sl.keepsN ((Keeps.refl no wu).drewN _)) | (go_at_call_of 20 (Value.slice Jx.o lx Jx.c); refine Calls.quiet_of_same (begins_yes _ Jb.o lb Jb.c Jx.o lx Jx.c Jb.xs Jx.xs HJb.out HJx.out ?_ ?_ (by rw [← HJb.out]; omega) (by rw [← HJx.out]; omega) HB1.out.2); exact HOb.out.row.keepsN ((Keeps.refl no wu).drewN _); exact HOx.out.sl.keepsN ((Keeps.refl no wu).drewN _))))
                go_wp2_with fail
                go_roundw
                case rel => exact ⟨j + 1, by omega, by go_num, KU.out.drewN _⟩
                case measure => simp [intOf]; omega
              · have T2 : decide ((lb : Int) < (lx : Int)) = false := by simp; omega
                clear b5
                go_wp2_with fail
                go_quiet ((first | (go_at_call_of 20 (Value.slice Ja.o la Ja.c); refine Calls.quiet_of_same (begins_yes _ Ja.o la Ja.c Jb.o lb Jb.c Ja.xs Jb.xs HJa.out HJb.out ?_ ?_ (by rw [← HJa.out]; omega) (by rw [← HJb.out]; omega) HB1.out.1); exact HOa.out.row.keepsN ((Keeps.refl no wu).drewN _); exact HOb.out.sl.keepsN ((Keeps.refl no wu).drewN _)) | (go_at_call_of 20 (Value.slice Jx.o lx Jx.c); refine Calls.quiet_of_same (begins_yes _ Jb.o lb Jb.c Jx.o lx Jx.c Jb.xs Jx.xs HJb.out HJx.out ?_ ?_ (by rw [← HJb.out]; omega) (by rw [← HJx.out]; omega) HB1.out.2); exact HOb.out.row.keepsN ((Keeps.refl no wu).drewN _); exact HOx.out.sl.keepsN ((Keeps.refl no wu).drewN _))))
                go_wp2_with fail
                go_roundw
                case rel => exact ⟨j + 1, by omega, by go_num, KU.out.drewN _⟩
                case measure => simp [intOf]; omega
            · have hjn : j = nx := by omega
              subst j
              have A15 : Hid (Hs wu wr.heap.size ha a nx nx (up (crash LS Z))) := A14.out.keepsN KU.out
              have D15 : Hid (Many w wu P (sel Z (up (crash LS Z)) (up (crash (LS + MS) Z)) (up (crash 0 (syn nx Z)))) F A) := D14.out.beside KU.out
              have a1 : wu.cell? ⟨A, 1, none⟩ = some (.pointer (some ⟨P 1, 0, none⟩)) := D15.out.at (i := 1) (by omega)
              have HL15 : Hid (wr.heap.size ≤ wu.heap.size) := (show _ ≤ _ by have := A15.out.hl; have := lt_of_block A15.out.blk; omega)
              go_wp2_with fail
              refine (md_crash (i := 1) (by omega) 5 (S' := sel Z (crash 5 (up (crash LS Z))) (up (crash (LS + MS) Z)) (up (crash 0 (syn nx Z)))) D15.out (by unfold i64; omega) (fun j hj => by match j, hj with | 0, _ => rfl | 1, _ => rfl | 2, _ => rfl | 3, _ => rfl)).mono ?_
              rintro e w16 ⟨rfl, D16, K16⟩
              have A16 : Hid (Hs w16 wr.heap.size ha a nx nx (up (crash LS Z))) := A15.out.keeps K16.out (HLF.out 1 (by omega))
              have a2 : w16.cell? ⟨A, 1, none⟩ = some (.pointer (some ⟨P 1, 0, none⟩)) := D16.out.at (i := 1) (by omega)
              clear a1 xc0
              go_wp2_with fail
              refine (md_shot (i := 1) (by omega) _ wr.heap.size (S' := sel Z (up (crash 5 (up (crash LS Z)))) (up (crash (LS + MS) Z)) (up (crash 0 (syn nx Z)))) D16.out (Room.crash (s := up (crash LS Z)) HRs.out.1) HM.out (Nat.le_trans HL15.out K16.out.size) (fun j hj => by match j, hj with | 0, _ => rfl | 1, _ => rfl | 2, _ => rfl | 3, _ => rfl)).mono ?_
              rintro e w17 ⟨g, ng, mg, rfl, HG, D17, K17⟩
              have A17 : Hid (Hs (w17.alloc (.cells #[.slice g.on ng g.cn, .slice g.ob mg g.cb] 48)) wr.heap.size ha a nx nx (up (crash LS Z))) := (A16.out.keeps K17.out (HLF.out 1 (by omega))).keepsN (keeps_alloc w17 _)
              have g0 := cell_of_blk A17.out.blk 0
              have g1 := cell_of_blk A17.out.blk 1
              clear a2
              go_wp2_with fail
              have hss := sameShot_of g a HG.out.sh A17.out.sh HG.out.tl A17.out.tl (crash_again HOK.out HQ.out.off LS 5) ((D17.out.is 1 (by omega)).ok.len)
              rw [HG.out.ec, A17.out.ec] at hss
              refine hss.mono ?_
              rintro e w18 ⟨rfl, K18⟩
              go_wp2_with fail
              go_ret
              exact ⟨rfl, (D17.out.kept.trans (keeps_alloc w17 _)).trans K18⟩
end Go.Proofs.Ytgobakfffobpkaa
