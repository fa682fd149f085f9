import Derived.Test.YtdemoghlibnooaaGreatDoorDN
namespace Go.Proofs.YtdemoghlibnooaaGreatDoor
open Go.RowKit Go.Maps Go.Sort Orl Pk
set_option linter.unusedVariables false
set_option linter.unusedSimpArgs false
structure BtQ (w : World) (bs : List Nat) (o : Option Addr) (n c : Nat) (wr : World) : Prop where
  n : n = bs.length
  own : Owns wr o c bs
  new : New w o
  keep : Keeps no w wr
theorem BtQ.go {w : World} {bs : List Nat} {o : Option Addr} {n c : Nat} {wr wr' : World} (h : BtQ w bs o n c wr) (hk : Keeps no wr wr') : BtQ w bs o n c wr' := ⟨h.n, h.own.keepsN hk, h.new, h.keep.trans hk⟩
theorem BtQ.step {w : World} {bs bs' : List Nat} {o : Option Addr} {n c : Nat} {wr : World} (h : BtQ w bs o n c wr) {e : Ending} {w' : World} (ha : AppTo wr o bs' e w') : ∃ o' n' c', e = .returned (.slice o' n' c') ∧ Hid (BtQ w bs' o' n' c' w' ∧ Stay wr w') := by
  obtain ⟨o', c', n', he, hn, ho, hf, hk⟩ := ha
  refine ⟨o', n', c', he, ⟨hn.out, ho, fun k hk' => ?_, h.keep.then hk (fun i hi => .inr (h.new i hi))⟩, fun g cs t fr hg h1 h2 => hk.at hg (fun hi => ?_)⟩
  · rcases hf.in k hk' with h1 | h1
    · exact h.new k h1
    · exact Nat.le_trans h.keep.size h1
  · rcases h.own.shape with ⟨e, _⟩ | ⟨g', cur, e, hg', _⟩
    · rw [e] at hi; obtain ⟨x, e', _⟩ := hi; cases e'
    · rw [e] at hi
      obtain ⟨x, e', hx⟩ := hi
      cases e'
      simp only at hx
      subst hx
      rw [hg'] at hg
      cases hg
      exact h2 rfl
theorem BtQ.num {w : World} {bs : List Nat} {o : Option Addr} {n c : Nat} {wr : World} (h : BtQ w bs o n c wr) (v K : Nat) (hv : v < 18446744073709551616) (hK : K ≤ 8) (hl : bs.length ≤ 140737488280000) :
    Calls Tryz.prog 123 #[.slice o n c, .int .u64 ((v : Nat) : Int), .int .i64 ((K : Nat) : Int)] wr fun e w' => ∃ o' n' c', e = .returned (.slice o' n' c') ∧ Hid (BtQ w (bs ++ num K v) o' n' c' w' ∧ Stay wr w') := by
  refine (dNumber_any wr o n c bs v K h.n h.own (by have := h.n; omega) hv hK).mono ?_
  intro e w' ha
  exact h.step ha
theorem BtQ.text {w : World} {bs : List Nat} {o : Option Addr} {n c : Nat} {wr : World} (h : BtQ w bs o n c wr) (s : Tx) (hs : s.size ≤ 65535) (hl : bs.length ≤ 140737488280000) :
    Calls Tryz.prog 125 #[.slice o n c, .string s] wr fun e w' => ∃ o' n' c', e = .returned (.slice o' n' c') ∧ Hid (BtQ w (bs ++ txt (nats s)) o' n' c' w' ∧ Stay wr w') := by
  refine (dText_any wr o n c bs s h.n h.own (by have := h.n; omega) hs).mono ?_
  intro e w' ha
  exact h.step ha
theorem vts_eq {a b : List KV} (h : KsEq true a b) : vts a = vts b := by
  unfold vts
  refine List.ext_getElem (by simp [h.1]) (fun j h1 h2 => ?_)
  have hj : j < a.length := by simpa using h1
  have hj2 : j < b.length := by simpa using h2
  obtain ⟨q1, q2, q3, _⟩ := h.2 j hj
  simp only [List.getElem_map]
  simp only [List.getD_eq_getElem?_getD, List.getElem?_eq_getElem hj, List.getElem?_eq_getElem hj2, Option.getD_some] at q1 q2 q3
  unfold KV.vt
  rw [q1, q2, q3]
theorem tagsD : 116 ≠ 5 ∧ 114 ≠ 5 ∧ 112 ≠ 266 ∧ 112 ≠ 5 := by decide
theorem bodyLen_take (ss : List Tx) (k : Nat) : bodyLen (natss (ss.take k)) ≤ bodyLen (natss ss) := by
  have : natss ss = natss (ss.take k) ++ natss (ss.drop k) := by unfold natss; rw [← List.map_append, List.take_append_drop]
  rw [this, bodyLen_append]; omega
theorem head5 (g : Nat) : [114, 97, 109, 112, 1] ++ num 8 g = snHead g := by
  unfold snHead
  rw [show num 4 1918987632 = [114, 97, 109, 112] by decide, show num 1 1 = [1] by decide]
  rfl
set_option maxRecDepth 10000 in
set_option maxHeartbeats 8000000 in
theorem dBuild_any {w0 w : World} {p : Nat} {s : St} {N : Nat} (h : Rm w0 p s N w) (hN : N ≤ 2000000) (g : Nat) (hg : 1 ≤ g) (hg2 : g ≤ 9223372036854775807) :
    Calls Tryz.prog 80 #[.int .i64 ((g : Nat) : Int), .pointer (some ⟨p, 0, none⟩)] w fun e w' => ∃ o n c bs, e = .returned (.tuple #[.slice o n c, .int .i64 0]) ∧ Hid (SnOf s g bs ∧ n = bs.length ∧ Owns w' o c bs ∧ (∀ c ∈ bs, c < 256) ∧ bs.length ≤ 140737488355328 ∧ Keeps no w w' ∧ New w o) := by
  obtain ⟨oK, nK, cK, oL, nL, cL, ks, ls, h1, h2, h3, h4, h5⟩ := h
  have hT : Tld s ls ks := ⟨h2.is, h2.all, h2.inc, h2.la⟩
  have hlm := tld_lims h4 hT
  have hln := ls_le h4 hT
  have hLL := layL_max ls (fun l hl => (hlm.1 l hl).1)
  have hLV := layV_max (vts ks) hlm.2
  have hvl : (vts ks).length = ks.length := by simp [vts]
  have HR : Hid (RO (fun b => w0.heap.size ≤ b) w p oK nK cK oL nL cL ks ls ∧ Tld s ls ks ∧ (∀ l ∈ ls, LimL l) ∧ (∀ v ∈ vts ks, LimV v) ∧ ls.length ≤ 2000000 ∧ ks.length ≤ 2000000 ∧ (layL ls).length ≤ 65547 * 2000000 ∧ (layV (vts ks)).length ≤ 67243026 * 2000000) := ⟨h1, hT, hlm.1, hlm.2, by omega, by omega, by omega, by omega⟩
  have HRK : Hid (RK w ks) := ⟨fun x hx => ⟨(h1.key x hx).sl, by have := (hlm.2 x.vt (List.mem_map.2 ⟨x, hx, rfl⟩)).2.2.2.1; simp only [KV.vt] at this; omega⟩⟩
  have hg' : ¬ ((g : Nat) : Int) < 1 := by omega
  have hg3 : ((g : Nat) : Int) ≤ 9223372036854775807 := by omega
  clear h1 h2 h3 h4 h5 hT hlm hln hLL hLV hvl hg hN
  have HB0 : Hid (BtQ w [114, 97, 109, 112, 1] (some ⟨w.heap.size, 0, none⟩) 5 5 (w.alloc (.cells #[.int .u8 114, .int .u8 97, .int .u8 109, .int .u8 112, .int .u8 1] 5))) := ⟨rfl, owns_lit w [114, 97, 109, 112, 1] (by simp), new_fresh w _ (Nat.le_refl _) 0, (Keeps.refl no w).alloc _⟩
  go_enter Tryz.func80, Tryz.ntmps80
  go_wp2_with fail
  refine (HB0.out.num g 8 (by omega) (by omega) (by simp)).mono ?_
  rintro e w1 ⟨b1, n1, c1, rfl, H1⟩
  rw [head5] at H1
  clear HB0
  go_wp2_with fail
  refine (rLasts_any w1 p oK nK cK oL nL cL ks ls (HR.out.1.keepsN H1.out.1.keep).rd).mono ?_
  rintro e w2 ⟨lo, ln, lc, rfl, H2⟩
  have hlnb : (ln : Int) ≤ 2000000 := by have := H2.out.1; have := HR.out.2.2.2.2.1; omega
  go_wp2_with fail
  refine ((H1.out.1.go H2.out.2.2.2).num ln 4 (by omega) (by omega) (by rw [snHead_length]; omega)).mono ?_
  rintro e w3 ⟨b3, n3, c3, rfl, H3⟩
  have HL3 : Hid (Own LE w3 lo lc ls ∧ ln = ls.length) := ⟨H2.out.2.1.stay okL H3.out.2 tagsW.1 tagsW.2.1, H2.out.1⟩
  clear H1 H2
  go_upto_block 0 with fail
  go_cut [6, 8] from 31 to 51 (fun b _ wc => ∃ o n c, b = .slice o n c ∧ Hid (BtQ w (snHead g ++ (num 4 ls.length ++ layL ls)) o n c wc))
  case first =>
    go_wp2_with fail
    go_loopw [6, 8] (fun b i wr => ∃ (k : Nat) (o : Option Addr) (n c : Nat), k ≤ ln ∧ b = .slice o n c ∧ i = .int .i64 k ∧ Hid (BtQ w (snHead g ++ num 4 ln ++ layL (ls.take k)) o n c wr ∧ Stay w3 wr)) (fun _ i _ => ln - (intOf i).toNat)
    case atStart => exact ⟨0, b3, n3, c3, by omega, rfl, rfl, by simpa [layL] using H3.out.1, Stay.refl _⟩
    case round =>
      rename World => wq
      obtain ⟨k, o, n, c, hk, rfl, rfl, HW⟩ := hrel
      by_cases hlt : k < ln
      · have hlt' : (k : Int) < ln := by omega
        have hks : k < ls.length := by have := HL3.out.2; omega
        obtain ⟨a1, off1, e1, d0, d1⟩ := (HL3.out.1.stay okL HW.out.2 tagsW.1 tagsW.2.1).sl.atL hks
        obtain ⟨x, hx⟩ : ∃ x, x = ls.getD k (e0, 0) := ⟨_, rfl⟩
        rw [← hx] at d0 d1
        have hlim := HR.out.2.2.1 x (by rw [hx]; exact getD_mem_lt _ hks)
        have e2 := layL_snoc ls k hks
        have e3 := layL_take ls (k + 1)
        rw [← hx] at e2
        rw [e2, List.length_append, layL1_length] at e3
        have HX : Hid (layL (ls.take (k + 1)) = layL (ls.take k) ++ layL1 x) := e2
        have HL : Hid ((snHead g ++ num 4 ln ++ layL (ls.take k)).length + 12 + x.1.size ≤ 140737488280000) := (show _ ≤ _ by
          rw [List.length_append, List.length_append, num_length, snHead_length]; have := HR.out.2.2.2.2.2.2.1; omega)
        obtain ⟨x1, x2⟩ := x
        have HM : Hid (x1.size ≤ 65535 ∧ x2 < 18446744073709551616) := hlim
        simp only at d0 d1
        generalize hX : snHead g ++ num 4 ln ++ layL (ls.take k) = X at HW HL
        have HX2 : Hid (snHead g ++ num 4 ln ++ layL (ls.take k) = X) := hX
        have HB5 : Hid ((Own LE wq lo lc ls)) := HL3.out.1.stay okL HW.out.2 tagsW.1 tagsW.2.1
        have HK5 : Hid (k < ls.length ∧ (x1, x2) = ls.getD k (e0, 0)) := ⟨hks, hx⟩
        clear hX hlim hx e2 e3 hks
        have e1' := e1
        subst e1
        go_wp2_with fail
        refine (HW.out.1.text x1 HM.out.1 (by have := HL.out; (try simp only at this); omega)).mono ?_
        rintro e w4 ⟨o4, n4, c4, rfl, H4⟩
        have f1 : w4.cell? ⟨a1, off1 + k * 2 + 1, none⟩ = some (.int .u64 ((x2 : Nat) : Int)) := by
          obtain ⟨a2, off2, ee, z0, z1⟩ := (HB5.out.stay okL H4.out.2 tagsW.1 tagsW.2.1).sl.atL HK5.out.1
          cases ee
          rw [← HK5.out.2] at z1
          exact z1
        clear d0 d1
        go_wp2_with fail
        refine (H4.out.1.num x2 8 HM.out.2 (by omega) (by have := HL.out; (try simp only at this); rw [List.length_append, txt_length, nats_length]; omega)).mono ?_
        rintro e w5 ⟨o5, n5, c5, rfl, H5⟩
        go_wp2_with fail
        go_roundw
        case rel =>
          refine ⟨k + 1, o5, n5, c5, by omega, rfl, by go_num, ?_, (HW.out.2.trans H4.out.2).trans H5.out.2⟩
          have := H5.out.1
          rw [HX.out, ← List.append_assoc, HX2.out]
          unfold layL1
          rw [← List.append_assoc]
          exact this
        case measure => simp [intOf]; omega
      · have hlt' : ¬ (k : Int) < ln := by omega
        have HE : Hid (BtQ w (snHead g ++ (num 4 ls.length ++ layL ls)) o n c wq) := by
          have e1 : ls.take k = ls := List.take_of_length_le (by have := HL3.out.2; omega)
          have := HW.out.1
          rw [e1, List.append_assoc, HL3.out.2] at this
          exact this
        go_wp2_with fail
        go_meet
        case rel => exact ⟨o, n, c, rfl, HE⟩
  case rest =>
  obtain ⟨b6, n6, c6, rfl, H6⟩ := hcut
  rename World => w6
  clear H3 HL3
  have HLn6 : Hid ((snHead g ++ (num 4 ls.length ++ layL ls)).length = 17 + (layL ls).length) := (show _ = _ by rw [List.length_append, List.length_append, snHead_length, num_length]; omega)
  go_wp2_with fail
  refine (rKept_any w6 p oK nK cK oL nL cL ks ls (HR.out.1.keepsN H6.out.keep).rd (HRK.out.keepsN H6.out.keep)).mono ?_
  rintro e w7 ⟨ko, kn, kc, rfl, H7⟩
  obtain ⟨kz, hkn, hKl, hEq⟩ := H7.out
  have hvz := vts_eq hEq
  have HZ : Hid (kn = kz.length ∧ Own KE w7 ko kc kz ∧ (∀ x ∈ kz, Own TE w7 x.o x.c x.keys) ∧ vts kz = vts ks ∧ kz.length ≤ 2000000 ∧ Keeps no w6 w7) := ⟨hkn, hKl.own, fun x hx => (hKl.key x hx).1, hvz.symm, by have := hEq.1; have := HR.out.2.2.2.2.2.1; omega, hKl.keep⟩
  have hknb : (kn : Int) ≤ 2000000 := by have := HZ.out.1; have := HZ.out.2.2.2.2.1; omega
  clear H7 hkn hKl hEq hvz
  go_wp2_with fail
  refine ((H6.out.go HZ.out.2.2.2.2.2).num kn 4 (by omega) (by omega) (by rw [HLn6.out]; have := HR.out.2.2.2.2.2.2.1; omega)).mono ?_
  rintro e w8 ⟨b8, n8, c8, rfl, H8⟩
  have HK8 : Hid (Own KE w8 ko kc kz ∧ (∀ x ∈ kz, Own TE w8 x.o x.c x.keys)) := ⟨HZ.out.2.1.stay okK H8.out.2 tagsW.2.2.1 tagsW.2.2.2, fun x hx => (HZ.out.2.2.1 x hx).stay okT H8.out.2 (by decide) (by decide)⟩
  obtain ⟨Y, hY⟩ : ∃ Y, Y = snHead g ++ (num 4 ls.length ++ layL ls) := ⟨_, rfl⟩
  rw [← hY] at H8 HLn6
  have HY : Hid (Y = snHead g ++ (num 4 ls.length ++ layL ls)) := hY
  clear H6 hY
  go_upto_block 2 with fail
  go_cut [6, 10, 11, 12] from 58 to 101 (fun b _ _ _ wc => ∃ o n c, b = .slice o n c ∧ Hid (BtQ w (Y ++ (num 4 ks.length ++ layV (vts ks))) o n c wc))
  case first =>
    go_wp2_with fail
    go_loopw [6, 10, 11, 12] (fun b i _ _ wr => ∃ (k : Nat) (o : Option Addr) (n c : Nat), k ≤ kn ∧ b = .slice o n c ∧ i = .int .i64 k ∧ Hid (BtQ w (Y ++ num 4 kn ++ layV (vts (kz.take k))) o n c wr ∧ Stay w8 wr)) (fun _ i _ _ _ => kn - (intOf i).toNat)
    case atStart => exact ⟨0, b8, n8, c8, by omega, rfl, rfl, by simpa [layV, vts] using H8.out.1, Stay.refl _⟩
    case round =>
      rename World => wq
      obtain ⟨k, o, n, c, hk, rfl, rfl, HW⟩ := hrel
      by_cases hlt : k < kn
      · have hlt' : (k : Int) < kn := by omega
        have hks : k < kz.length := by have := HZ.out.1; omega
        obtain ⟨a1, off1, e1, d0, d1, d2, d3, d4⟩ := (HK8.out.1.stay okK HW.out.2 tagsW.2.2.1 tagsW.2.2.2).sl.atK hks
        obtain ⟨x, hx⟩ : ∃ x, x = kz.getD k kv0 := ⟨_, rfl⟩
        have hin : x ∈ kz := by rw [hx]; exact getD_mem_lt _ hks
        rw [← hx] at d0 d1 d2 d3 d4
        have hlim := HR.out.2.2.2.1 x.vt (by rw [← HZ.out.2.2.2.1]; exact List.mem_map.2 ⟨x, hin, rfl⟩)
        have hkx := (HK8.out.2 x hin).stay okT HW.out.2 (by decide) (by decide)
        have e2 := layV_snoc kz k hks
        have e3 := layV_take kz (k + 1)
        rw [← hx] at e2
        rw [e2, List.length_append, layV1_length, HZ.out.2.2.2.1] at e3
        have HX : Hid (layV (vts (kz.take (k + 1))) = layV (vts (kz.take k)) ++ layV1 x.vt) := e2
        have HL : Hid ((Y ++ num 4 kn ++ layV (vts (kz.take k))).length + 20 + x.m.1.size + x.val.size + bodyLen (natss x.keys) ≤ 140737488280000) := (show _ ≤ _ by
          rw [List.length_append, List.length_append, num_length, HLn6.out]; have := HR.out.2.2.2.2.2.2; simp only [KV.vt] at e3; omega)
        obtain ⟨⟨x1, x2⟩, xv, xo, xc, xks, xst⟩ := x
        have HM : Hid (LimV ((x1, x2), xv, xks)) := hlim
        have HK : Hid (Own TE wq xo xc xks) := hkx
        simp only at d0 d1 d2 d3 d4
        obtain ⟨nk, hnk⟩ : ∃ nk, nk = xks.length := ⟨_, rfl⟩
        rw [← hnk] at d3
        have HNK : Hid (nk = xks.length) := hnk
        have hnkb : (nk : Int) ≤ 1024 := by have := HM.out.2.2.2.1; (try simp only at this); omega
        generalize hX : Y ++ num 4 kn ++ layV (vts (kz.take k)) = X at HW HL
        have HX2 : Hid (Y ++ num 4 kn ++ layV (vts (kz.take k)) = X) := hX
        have HL' : Hid (X.length + 20 + x1.size + xv.size + bodyLen (natss xks) ≤ 140737488280000) := HL.out
        clear hX hlim hx e2 e3 hks hkx hin hnk HL
        subst e1
        have HB1 : Hid ((wq.alloc (.cells #[.string x1, .int .u64 ((x2 : Nat) : Int), .string xv, .slice xo nk xc] 112)).heap[wq.heap.size]? = some (.cells #[.string x1, .int .u64 ((x2 : Nat) : Int), .string xv, .slice xo nk xc] 112 (0, 0)) ∧ BtQ w X o n c (wq.alloc (.cells #[.string x1, .int .u64 ((x2 : Nat) : Int), .string xv, .slice xo nk xc] 112)) ∧ Stay wq (wq.alloc (.cells #[.string x1, .int .u64 ((x2 : Nat) : Int), .string xv, .slice xo nk xc] 112))) := ⟨blk_new wq _, HW.out.1.go ((Keeps.refl no wq).alloc _), Stay.of_keeps ((Keeps.refl no wq).alloc _)⟩
        go_wp2_with fail
        refine (HB1.out.2.1.text x1 HM.out.1 (by have := HL'.out; omega)).mono ?_
        rintro e w2 ⟨o2, n2, c2, rfl, H2⟩
        have HB2 : Hid (w2.heap[wq.heap.size]? = some (.cells #[.string x1, .int .u64 ((x2 : Nat) : Int), .string xv, .slice xo nk xc] 112 (0, 0))) := H2.out.2 _ _ _ _ HB1.out.1 tagsD.2.2.1 tagsD.2.2.2
        have f1 := cell_of_blk HB2.out 1
        simp only [List.getElem?_toArray, List.getElem?_cons_succ, List.getElem?_cons_zero] at f1
        clear d0 d1 d2 d3 d4
        go_wp2_with fail
        refine (H2.out.1.num x2 8 HM.out.2.1 (by omega) (by have := HL'.out; rw [List.length_append, txt_length, nats_length]; omega)).mono ?_
        rintro e w3 ⟨o3, n3, c3, rfl, H3⟩
        have HB3 : Hid (w3.heap[wq.heap.size]? = some (.cells #[.string x1, .int .u64 ((x2 : Nat) : Int), .string xv, .slice xo nk xc] 112 (0, 0))) := H3.out.2 _ _ _ _ HB2.out tagsD.2.2.1 tagsD.2.2.2
        have f2 := cell_of_blk HB3.out 2
        simp only [List.getElem?_toArray, List.getElem?_cons_succ, List.getElem?_cons_zero] at f2
        clear f1
        go_wp2_with fail
        refine (H3.out.1.text xv HM.out.2.2.1 (by have := HL'.out; rw [List.length_append, List.length_append, txt_length, nats_length, num_length]; omega)).mono ?_
        rintro e w4 ⟨o4, n4, c4, rfl, H4⟩
        have HB4 : Hid (w4.heap[wq.heap.size]? = some (.cells #[.string x1, .int .u64 ((x2 : Nat) : Int), .string xv, .slice xo nk xc] 112 (0, 0))) := H4.out.2 _ _ _ _ HB3.out tagsD.2.2.1 tagsD.2.2.2
        have f3 := cell_of_blk HB4.out 3
        simp only [List.getElem?_toArray, List.getElem?_cons_succ, List.getElem?_cons_zero] at f3
        clear f2
        go_wp2_with fail
        refine (H4.out.1.num nk 4 (by omega) (by omega) (by have := HL'.out; rw [List.length_append, List.length_append, List.length_append, txt_length, txt_length, nats_length, nats_length, num_length]; omega)).mono ?_
        rintro e w5 ⟨o5, n5, c5, rfl, H5⟩
        have HS5 : Hid (Stay wq w5 ∧ w5.heap[wq.heap.size]? = some (.cells #[.string x1, .int .u64 ((x2 : Nat) : Int), .string xv, .slice xo nk xc] 112 (0, 0))) := ⟨(((HB1.out.2.2.trans H2.out.2).trans H3.out.2).trans H4.out.2).trans H5.out.2, H5.out.2 _ _ _ _ HB4.out tagsD.2.2.1 tagsD.2.2.2⟩
        obtain ⟨Z, hZ⟩ : ∃ Z, Z = X ++ txt (nats x1) ++ num 8 x2 ++ txt (nats xv) ++ num 4 nk := ⟨_, rfl⟩
        rw [← hZ] at H5
        have HZZ : Hid (Z = X ++ txt (nats x1) ++ num 8 x2 ++ txt (nats xv) ++ num 4 nk ∧ Z.length + bodyLen (natss xks) ≤ 140737488280000) := ⟨hZ, by
          rw [hZ]; simp only [List.length_append, txt_length, nats_length, num_length]; have := HL'.out; omega⟩
        clear hZ f3 H2 H3 H4 HB1 HB2 HB3 HB4
        go_wp2_with fail
        go_loopw [6, 12] (fun b i wr => ∃ (j : Nat) (o : Option Addr) (n c : Nat), j ≤ nk ∧ b = .slice o n c ∧ i = .int .i64 j ∧ Hid (BtQ w (Z ++ txtsBody (natss (xks.take j))) o n c wr ∧ Stay w5 wr)) (fun _ i _ => nk - (intOf i).toNat)
        case atStart => exact ⟨0, o5, n5, c5, by omega, rfl, rfl, by simpa [natss, txtsBody] using H5.out.1, Stay.refl _⟩
        case round =>
          rename World => wz
          obtain ⟨j, o, n, c, hj, rfl, rfl, HV⟩ := hrel
          have g3 := cell_of_blk (HV.out.2 _ _ _ _ HS5.out.2 tagsD.2.2.1 tagsD.2.2.2) 3
          simp only [List.getElem?_toArray, List.getElem?_cons_succ, List.getElem?_cons_zero] at g3
          by_cases hjl : j < nk
          · have hjl' : (j : Int) < nk := by omega
            have hjx : j < xks.length := by have := HNK.out; omega
            obtain ⟨a2, off2, ee, d1⟩ := ((HK.out.stay okT HS5.out.1 (by decide) (by decide)).stay okT HV.out.2 (by decide) (by decide)).sl.at hjx
            obtain ⟨y, hy⟩ : ∃ y, y = xks.getD j e0 := ⟨_, rfl⟩
            rw [← hy] at d1
            have hys : y.size ≤ 65535 := HM.out.2.2.2.2 y (by rw [hy]; exact getD_mem_lt _ hjx)
            have hsn := txtsBody_snoc xks j hjx
            rw [show xks.getD j ⟨#[]⟩ = y from hy.symm] at hsn
            have hbt := bodyLen_take xks j
            have HY5 : Hid (txtsBody (natss (xks.take (j + 1))) = txtsBody (natss (xks.take j)) ++ txt (nats y) ∧ y.size ≤ 65535 ∧ bodyLen (natss (xks.take j)) ≤ bodyLen (natss xks)) := ⟨hsn, hys, hbt⟩
            clear hjx hy hys hsn hbt
            subst ee
            go_wp2_with fail
            refine (HV.out.1.text y HY5.out.2.1 (by rw [List.length_append, txtsBody_length]; have := HY5.out.2.2; have := HZZ.out.2; omega)).mono ?_
            rintro e w6' ⟨o6, n7, c7, rfl, H9⟩
            clear g3 d1
            go_wp2_with fail
            go_roundw
            case rel =>
              refine ⟨j + 1, o6, n7, c7, by omega, rfl, by go_num, ?_, HV.out.2.trans H9.out.2⟩
              rw [HY5.out.1, ← List.append_assoc]
              exact H9.out.1
            case measure => simp [intOf]; omega
          · have hjl' : ¬ (j : Int) < nk := by omega
            have HE : Hid (BtQ w (Y ++ num 4 kn ++ layV (vts (kz.take (k + 1)))) o n c wz ∧ Stay w8 wz) := by
              have e1 : xks.take j = xks := List.take_of_length_le (by have := HNK.out; omega)
              have h9 := HV.out.1
              rw [e1, HZZ.out.1] at h9
              refine ⟨?_, (HW.out.2.trans HS5.out.1).trans HV.out.2⟩
              rw [HX.out, ← List.append_assoc, HX2.out]
              unfold layV1
              simp only [KV.vt]
              unfold txts
              rw [natss_length, ← HNK.out, ← List.append_assoc, ← List.append_assoc, ← List.append_assoc, ← List.append_assoc]
              exact h9
            clear HV HS5 HZZ H5
            go_wp2_with fail
            go_roundw
            case rel => exact ⟨k + 1, o, n, c, by omega, rfl, by go_num, HE⟩
            case measure => simp [intOf]; omega
      · have hlt' : ¬ (k : Int) < kn := by omega
        have HE : Hid (BtQ w (Y ++ (num 4 ks.length ++ layV (vts ks))) o n c wq) := by
          have e1 : kz.take k = kz := List.take_of_length_le (by have := HZ.out.1; omega)
          have e2 : (vts kz).length = (vts ks).length := by rw [HZ.out.2.2.2.1]
          simp only [vts, List.length_map] at e2
          have := HW.out.1
          rw [e1, List.append_assoc, HZ.out.1, HZ.out.2.2.2.1, e2] at this
          exact this
        go_wp2_with fail
        go_meet
        case rel => exact ⟨o, n, c, rfl, HE⟩
  case rest =>
  obtain ⟨b9, n9, c9, rfl, H9⟩ := hcut
  rename World => w9
  clear H8 HK8
  have HBd : Hid (BtQ w (snBody g ls (vts ks)) b9 n9 c9 w9) := by
    have := H9.out
    rw [HY.out, List.append_assoc] at this
    unfold snBody
    rw [show (vts ks).length = ks.length by simp [vts]]
    exact this
  have HLe : Hid ((snBody g ls (vts ks)).length = 21 + (layL ls).length + (layV (vts ks)).length) := snBody_length _ _ _
  clear H9
  have hS := snSum_lt g ls (vts ks)
  go_wp2_with fail
  refine (dSum_any w9 b9 n9 c9 (snBody g ls (vts ks)) HBd.out.n (HBd.out.own.row (snBody_lt _ _ _) (by rw [HLe.out]; have := HR.out.2.2.2.2.2.2; omega))).mono ?_
  rintro e w10 ⟨rfl, hw10⟩
  subst w10
  obtain ⟨S, hSe⟩ : ∃ S, S = Crc.sum (snBody g ls (vts ks)) := ⟨_, rfl⟩
  rw [← hSe] at hS ⊢
  have HSe : Hid (S = Crc.sum (snBody g ls (vts ks))) := hSe
  clear hSe
  have hS' : (S : Int) < 4294967296 := by omega
  go_wp2_with fail
  refine (HBd.out.num S 4 (by omega) (by omega) (by rw [HLe.out]; have := HR.out.2.2.2.2.2.2; omega)).mono ?_
  rintro e w11 ⟨fo, fn, fc, rfl, H11⟩
  rw [HSe.out] at H11
  go_wp2_with fail
  go_ret2
  have hlen := snap_length g ls (vts ks)
  have := HLe.out
  have := HR.out.2.2.2.2.2.2
  exact ⟨fo, fn, fc, snap g ls (vts ks), rfl, ⟨ls, ks, HR.out.2.1, rfl⟩, H11.out.1.n, H11.out.1.own, snap_lt _ _ _, by omega, H11.out.1.keep, H11.out.1.new⟩
end Go.Proofs.YtdemoghlibnooaaGreatDoor
