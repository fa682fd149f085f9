/- The document's disk: a file put into the list, one taken out. -/
import Derived.Test.YtgobakfffobpkaaR4
namespace Go.Proofs.Ytgobakfffobpkaa
open Go.RowKit Dk
set_option linter.unusedVariables false
set_option linter.unusedSimpArgs false

theorem sl80 : Try.prog.underlying 80 = some (.slice (Try.prog.elem 80)) := by kernel_rfl
theorem cutO80 (o : Option Addr) (n c I : Nat) (h1 : I ≤ c) (hnil : o = none → c = 0) : ∀ w, (Instr.slice 80 (.slice o n c) none (some (.int .i64 ((I : Nat) : Int))) none).run Try.prog w = .ok (.slice o I c) w := by
  intro w
  match o, hnil with
  | none, hnil =>
    obtain rfl : c = 0 := hnil rfl
    obtain rfl : I = 0 := by omega
    rw [run_slice_h w 80 none _ 0 sl80 .i64 _ (by omega) (by omega)]
    go_simp
  | some ad, _ =>
    rw [run_slice_h w 80 (some ad) _ c sl80 .i64 _ (by omega) (by omega)]
    go_simp
theorem cutL80 (w0 : World) (o : Option Addr) (c : Nat) (fs : List RF) (n I : Nat) (hn : n = fs.length) (hI : I ≤ n) (h : Sl FE w0 o c fs) :
    ∃ A d, (∀ w, (Instr.slice 80 (.slice o n c) (some (.int .i64 ((I : Nat) : Int))) none none).run Try.prog w = .ok (.slice A (n - I) d) w) ∧ Sl FE w0 A d (fs.drop I) := by
  subst hn
  have hcap := h.cap
  match o, h with
  | none, h =>
    obtain rfl : c = 0 := h.nil rfl
    obtain rfl : I = 0 := by omega
    have h0 : fs = [] := List.length_eq_zero_iff.mp (by omega)
    subst h0
    refine ⟨none, 0, fun w => ?_, ⟨h.row.drop okF 0 (fun _ b off e => by cases e), by simp, fun _ => rfl⟩⟩
    rw [run_slice_l w 80 none _ 0 sl80 .i64 _ (by omega) (by simp)]
    go_simp
  | some ad, h =>
    refine ⟨some (if c = I then ad else ad.add (I * 3)), c - I, fun w => ?_, ⟨h.row.drop okF I (fun hlt b off e => ?_), by rw [List.length_drop]; omega, by simp⟩⟩
    · rw [run_slice_l w 80 (some ad) _ c sl80 .i64 _ (by omega) (by omega)]
      by_cases h : c = I
      · go_simp
      · go_simp
    · cases e
      rw [if_neg (by omega), addr_add]
      simp [FE]
/-- another list of files -/
theorem rd_list {w w' : World} {r : Nat} {F F' : Nat → Prop} {s s' : St} {oF o' : Option Addr} {cF c' : Nat} {fs fs' : List RF} (h : RD w r F s oF cF fs) (hb : w'.heap[r]? = some (.cells (rcells o' fs'.length c' s') 82 (0, 0))) (hO : Own FE w' o' c' fs') (hk : Keeps (fun k => k = r ∨ inO oF k) w w') (heq : s'.fs = fs'.map RF.ent) (hc : s'.calls = s.calls) (hkp : s'.keep = s.keep) (hr : s'.ref = s.ref)
    (hmem : ∀ x ∈ fs', x ∈ fs ∨ (Ow w x.o x.c x.bs ∧ ¬ inO x.o r ∧ (∀ k, inO x.o k → ¬ inO oF k) ∧ ∀ k, inO x.o k → F k)) (hap : fs'.Pairwise fun f g => ∀ k, inO f.o k → ¬ inO g.o k) (hF : ∀ k, F k → F' k) (hF2 : ∀ k, inO o' k → F' k) (hl : ∀ k, F' k → k < w'.heap.size) (hok : Ok s') : RD w' r F' s' o' c' fs' := by
  have hall : ∀ x ∈ fs', Ow w x.o x.c x.bs ∧ ¬ inO x.o r ∧ (∀ k, inO x.o k → ¬ inO oF k) ∧ ∀ k, inO x.o k → F k := fun x hx => by
    rcases hmem x hx with h1 | h1
    · exact ⟨h.each x h1, h.f_r h1, h.f_o h1, h.ff x h1⟩
    · exact h1
  refine ⟨hb, hO, heq, fun x hx => ?_, hap, hF _ h.fr, hF2, fun x hx k hk1 => hF _ ((hall x hx).2.2.2 k hk1), hl, hok, by rw [hc]; exact h.ci, by rw [hkp]; exact h.ki, by rw [hr]; exact h.ri⟩
  obtain ⟨a1, a2, a3, _⟩ := hall x hx
  exact a1.keeps hk (fun k h1 h2 => by
    rcases h2 with e | e
    · subst e; exact a2 h1
    · exact a3 k h1 e)

set_option maxRecDepth 100000 in
theorem gone_any (w : World) (r : Nat) (F : Nat → Prop) (s : St) (j : Nat) (oF : Option Addr) (cF : Nat) (fs : List RF) (hd : RD w r F s oF cF fs) (hj : j < s.fs.length) :
    Calls Try.prog 64 #[.pointer (some ⟨r, 0, none⟩), .int .i64 ((j : Nat) : Int)] w fun e w' => e = .returned (.tuple #[]) ∧ (∃ o2 c2, RD w' r (grow F w w') { s with fs := del (s.fs[j].1) s.fs } o2 c2 (fs.take j ++ fs.drop (j + 1))) ∧ Keeps (fun k => k = r) w w' := by
  obtain ⟨hjf, hent⟩ := hd.at hj
  obtain ⟨N, hN⟩ : ∃ N, N = fs.length := ⟨_, rfl⟩
  have c0 : w.cell? ⟨r, 0, none⟩ = some (.slice oF N cF) := by rw [hN]; exact cell_of_blk hd.blk 0
  have hjN : j < N := by omega
  have h16 : N ≤ 16 := by have := hd.ok.len; have := hd.len; omega
  have hcut := cutO80 oF N cF j (by have := hd.own.cap.1; omega) hd.own.cap.2
  obtain ⟨A, dA, hcl, hsl⟩ := cutL80 w oF cF fs N (j + 1) hN (by omega) hd.own.sl
  have HD : Hid (RD w r F s oF cF fs) := hd
  have HN : Hid (N = fs.length) := hN
  have HSL : Hid (Sl FE w A dA (fs.drop (j + 1))) := hsl
  have HDL : Hid (del (s.fs[j].1) s.fs = (fs.take j ++ fs.drop (j + 1)).map RF.ent) := (show _ = _ by rw [hit_del hd.ok.inc hj rfl, hd.eq]; simp [List.map_take, List.map_drop])
  rw [show ((j + 1 : Nat) : Int) = (j : Int) + 1 from rfl] at hcl
  clear hd hN hsl hent hjf
  go_enter Try.func64, Try.ntmps64
  go_wp2_with (at_builtin; first | (refine wpList_app okF rfl (.tmp 5) (.tmp 11) rfl none 0 0 [] rfl rfl (own_nil _) oF j cF (fs.take j) rfl (by rw [List.length_take]; have := HN.out; omega) HD.out.own.cap.2 (HD.out.own.row.take okF j) (by have := HN.out; simp [FE, List.length_take]; omega) (by have := HN.out; simp [List.length_take]; omega) ?_; intro o1 c1 w1 ho1 hap1; have hn1 := hap1.new (w0 := w) (new_none w) (Keeps.refl _ _); have c1' := hn1.2.cellN c0; have ho1' : Own FE w1 o1 c1 (fs.take j) := (by simpa using ho1)) | (refine wpList_app okF rfl (.tmp 14) (.tmp 21) rfl o1 j c1 (fs.take j) rfl (by have := HN.out; simp [List.length_take]; omega) ho1' A (N - (j + 1)) dA (fs.drop (j + 1)) rfl (by rw [List.length_drop]; have := HN.out; omega) HSL.out.nil (HSL.out.row.keepsN hn1.2) (by have := HN.out; simp [FE, List.length_take]; omega) (by have := HN.out; simp [List.length_take]; omega) ?_; intro o2 c2 w2 ho2 hap2; have hn2 := hap2.new (w0 := w) hn1.1 hn1.2; have c2' := hn2.2.cellN c0; have f2' : w2.frozen? ⟨r, 0, none⟩ = false := frozen_of_blk (hn2.2.at HD.out.blk id) 0))
  go_end0
  have hset := keeps_set w2 r 0 (.slice o2 (j + (N - (j + 1))) c2)
  have hlen : (fs.take j ++ fs.drop (j + 1)).length = j + (N - (j + 1)) := by have := HN.out; simp; omega
  have hkF : Keeps (fun k => k = r) w (w2.setCell ⟨r, 0, none⟩ (.slice o2 (j + (N - (j + 1))) c2)) := hn2.2.of_no.trans hset
  have ho2r : ¬ inO o2 r := fun h1 => by have := hn2.1 r h1; have := lt_of_block HD.out.blk; omega
  have hd' : RD (w2.setCell ⟨r, 0, none⟩ (.slice o2 (j + (N - (j + 1))) c2)) r (grow F w (w2.setCell ⟨r, 0, none⟩ (.slice o2 (j + (N - (j + 1))) c2))) { s with fs := del (s.fs[j].1) s.fs } o2 c2 (fs.take j ++ fs.drop (j + 1)) := by
    refine rd_list HD.out ?_ (ho2.keeps hset (fun k h1 e => by subst e; exact ho2r h1)) (hkF.mono fun k e => .inl e) HDL.out rfl rfl rfl (fun x hx => .inl ?_) (HD.out.apart.sublist ?_) (fun k hk => .inl hk) (fun k hk => .inr ⟨hn2.1 k hk, Nat.lt_of_lt_of_le (ho2.lt k hk) hset.size⟩) (fun k hk => ?_) (ok_del HD.out.ok)
    · rw [hlen]
      exact blk_set (hn2.2.at HD.out.blk id) 0 _
    · rcases List.mem_append.1 hx with h1 | h1
      · exact List.mem_of_mem_take h1
      · exact List.mem_of_mem_drop h1
    · have e : fs.take j ++ fs.drop (j + 1) = fs.eraseIdx j := (List.eraseIdx_eq_take_drop_succ ..).symm
      rw [e]
      exact List.eraseIdx_sublist ..
    · rcases hk with h1 | h1
      · exact Nat.lt_of_lt_of_le (HD.out.lt k h1) hkF.size
      · exact h1.2
  exact ⟨rfl, ⟨o2, c2, hd'⟩, hkF⟩

/-! ### put -/
structure Fit (w : World) (F : Nat → Prop) (fs : List RF) (f : RF) : Prop where
  ow : Ow w f.o f.c f.bs
  ap : ∀ x ∈ fs, x.nm ≠ f.nm → ∀ k, inO f.o k → ¬ inO x.o k
  ff : ∀ k, inO f.o k → F k
set_option maxRecDepth 100000 in
set_option maxHeartbeats 0 in
theorem put_any (w : World) (r : Nat) (F : Nat → Prop) (s : St) (oF : Option Addr) (cF : Nat) (fs : List RF) (f : RF) (nf : Nat) (hnf : nf = f.bs.length) (hd : RD w r F s oF cF fs) (hf : Fit w F fs f) (hok : Ok { s with fs := put f.nm.data.toList ⟨f.bs, f.sy⟩ s.fs }) :
    Calls Try.prog 63 #[.pointer (some ⟨r, 0, none⟩), .agg #[.string f.nm, .slice f.o nf f.c, .int .i64 ((f.sy : Nat) : Int)]] w fun e w' => e = .returned (.tuple #[]) ∧ IsR w' r (grow F w w') { s with fs := put f.nm.data.toList ⟨f.bs, f.sy⟩ s.fs } ∧ Keeps F w w' := by
  obtain ⟨N, hN⟩ : ∃ N, N = fs.length := ⟨_, rfl⟩
  have h16 : N ≤ 16 := by have := hd.ok.len; have := hd.len; omega
  have HD : Hid (RD w r F s oF cF fs) := hd
  have HN : Hid (N = fs.length) := hN
  have HF : Hid (Fit w F fs f) := hf
  have HOK : Hid (Ok { s with fs := put f.nm.data.toList ⟨f.bs, f.sy⟩ s.fs }) := hok
  have HNF : Hid (nf = f.bs.length) := hnf
  obtain ⟨V, hV⟩ : ∃ V, V = w.alloc (.cells #[.string f.nm, .slice f.o nf f.c, .int .i64 ((f.sy : Nat) : Int)] 97) := ⟨_, rfl⟩
  obtain ⟨B, hB⟩ : ∃ B, B = w.heap.size := ⟨_, rfl⟩
  have KV : Hid (Keeps no w V) := (show _ by rw [hV]; exact keeps_alloc w _)
  have BV : Hid (V.heap[B]? = some (.cells #[.string f.nm, .slice f.o nf f.c, .int .i64 ((f.sy : Nat) : Int)] 97 (0, 0))) := (show _ by rw [hV, hB]; exact blk_new w _)
  have b0 := cell_of_blk BV.out 0
  have b1 := cell_of_blk BV.out 1
  have b2 := cell_of_blk BV.out 2
  have HBs : Hid (B = w.heap.size) := hB
  clear hd hN hf hok hnf
  go_enter Try.func63, Try.ntmps63
  go_wp2_with fail
  rw [← hV, ← hB]
  clear hV hB
  refine (at_any V r F s f.nm ⟨oF, cF, fs, HD.out.keeps KV.out (fun _ _ => id)⟩).mono ?_
  rintro e w2 ⟨v, rfl, hv, hw⟩
  subst w2
  have c0 : V.cell? ⟨r, 0, none⟩ = some (.slice oF N cF) := by rw [HN.out]; exact KV.out.cellN (cell_of_blk HD.out.blk 0)
  cases hv.out with
  | hit j hj hn =>
    obtain ⟨hjf, hent⟩ := HD.out.at hj
    have hOV := HD.out.own.keepsN KV.out
    obtain ⟨g, rfl, d0, d1, d2, fz⟩ := ownF_at hOV hjf
    have hjN : j < N := by have := HN.out; omega
    have z0 := fz (j * 3)
    have z1 := fz (j * 3 + 1)
    have z2 := fz (j * 3 + 2)
    have hs0 := own_setF hOV hjf (i := 0) (by omega) (.string f.nm) ⟨f.nm, (fs.getD j rf0).o, (fs.getD j rf0).c, (fs.getD j rf0).bs, (fs.getD j rf0).sy⟩ rfl
    have hs1 := own_setF hs0 (by simpa using hjf) (i := 1) (by omega) (.slice f.o nf f.c) ⟨f.nm, f.o, f.c, f.bs, (fs.getD j rf0).sy⟩ (by rw [getD_set_self fs j _ rf0 hjf, HNF.out]; rfl)
    have hs2 := own_setF hs1 (by simpa using hjf) (i := 2) (by omega) (.int .i64 ((f.sy : Nat) : Int)) f (by rw [List.set_set, getD_set_self fs j _ rf0 hjf]; simp [RF.cells])
    rw [List.set_set, List.set_set] at hs2
    have HS : Hid (Own FE (((V.setCell ⟨g, j * 3, none⟩ (.string f.nm)).setCell ⟨g, j * 3 + 1, none⟩ (.slice f.o nf f.c)).setCell ⟨g, j * 3 + 2, none⟩ (.int .i64 ((f.sy : Nat) : Int))) (some ⟨g, 0, none⟩) cF (fs.set j f)) := hs2
    have hkw : Keeps (inO (some ⟨g, 0, none⟩)) w (((V.setCell ⟨g, j * 3, none⟩ (.string f.nm)).setCell ⟨g, j * 3 + 1, none⟩ (.slice f.o nf f.c)).setCell ⟨g, j * 3 + 2, none⟩ (.int .i64 ((f.sy : Nat) : Int))) := ((KV.out.of_no.trans (keeps_setO V g (j * 3) _)).trans (keeps_setO _ g (j * 3 + 1) _)).trans (keeps_setO _ g (j * 3 + 2) _)
    obtain ⟨W, hW⟩ : ∃ W, W = ((V.setCell ⟨g, j * 3, none⟩ (.string f.nm)).setCell ⟨g, j * 3 + 1, none⟩ (.slice f.o nf f.c)).setCell ⟨g, j * 3 + 2, none⟩ (.int .i64 ((f.sy : Nat) : Int)) := ⟨_, rfl⟩
    rw [← hW] at HS hkw
    have HRD : Hid (IsR W r (grow F w W) { s with fs := put f.nm.data.toList ⟨f.bs, f.sy⟩ s.fs } ∧ Keeps F w W) := (show _ from by
      refine ⟨⟨some ⟨g, 0, none⟩, cF, fs.set j f, ?_⟩, hkw.mono HD.out.fo⟩
      refine rd_list HD.out ?_ HS.out (hkw.mono fun k hk => .inr hk) ?_ rfl rfl rfl (fun x hx => ?_) (apart_set HD.out.apart hjf (fun i hi hne k h1 h2 => ?_)) (fun k hk => .inl hk) (fun k hk => .inl (HD.out.fo k hk)) (fun k hk => ?_) HOK.out
      · rw [hkw.at HD.out.blk HD.out.o_r]
        simp [rcells]
      · show put f.nm.data.toList ⟨f.bs, f.sy⟩ s.fs = (fs.set j f).map RF.ent
        rw [hit_put HD.out.ok.inc hj hn, List.map_set, ← HD.out.eq, List.set_eq_take_append_cons_drop, if_pos hj]
        rfl
      · rcases mem_set_getD hx with rfl | ⟨i, hi, hne, rfl⟩
        · exact .inr ⟨HF.out.ow, HF.out.ow.ne HD.out.blk (by decide), HF.out.ow.neO HD.out.own (by decide), HF.out.ff⟩
        · exact .inl (getD_mem fs i rf0 hi)
      · refine HF.out.ap _ (getD_mem fs i rf0 hi) (fun e => ?_) k h1 h2
        have his : i < s.fs.length := by rw [HD.out.len]; exact hi
        have hne2 : s.fs[i].1 ≠ s.fs[j].1 := by
          rcases Nat.lt_or_gt_of_ne hne with h | h
          · exact bb_ne ((List.pairwise_iff_getElem.1 HD.out.ok.inc) i j his hj h)
          · exact (bb_ne ((List.pairwise_iff_getElem.1 HD.out.ok.inc) j i hj his h)).symm
        rw [hn, (HD.out.at his).2] at hne2
        exact hne2 (by show (fs.getD i rf0).nm.data.toList = _; rw [e])
      · rcases hk with h1 | h1
        · exact Nat.lt_of_lt_of_le (HD.out.lt k h1) hkw.size
        · exact h1.2)
    clear hs0 hs1 hs2 hkw hOV hent fz hn hv
    go_wp2_with fail
    go_region_with (fail)
    all_goals go_wp2_with fail
    all_goals rw [← hW]
    all_goals refine bodyPost_ret (results_none rfl _ _ _) rfl ?_
    all_goals exact ⟨rfl, HRD.out.1.keepsN (Keeps.refl _ _).drew, HRD.out.2.drew⟩
  | miss j hj lo hi =>
    have hjN : j ≤ N := by have := HN.out; have := HD.out.len; omega
    have hcut := cutO80 oF N cF j (by have := HD.out.own.cap.1; have := HN.out; omega) HD.out.own.cap.2
    obtain ⟨A, dA, hcl, hsl⟩ := cutL80 V oF cF fs N j HN.out hjN (HD.out.own.sl.keepsN KV.out)
    have HSL : Hid (Sl FE V A dA (fs.drop j)) := hsl
    have HLO : Hid ((∀ i (hi : i < s.fs.length), i < j → bytesBefore s.fs[i].1 f.nm.data.toList = true) ∧ ∀ i (hi : i < s.fs.length), j ≤ i → bytesBefore f.nm.data.toList s.fs[i].1 = true) := ⟨lo, hi⟩
    have HJ : Hid (j ≤ s.fs.length) := hj
    have hjj : -1 - (-1 - ((j : Nat) : Int)) = ((j : Nat) : Int) := by omega
    clear hsl lo hi hv
    go_wp2_with (at_builtin; first | (refine wpList_app okF rfl (.tmp 21) (.tmp 27) rfl none 0 0 [] rfl rfl (own_nil _) oF j cF (fs.take j) rfl (by rw [List.length_take]; have := HN.out; omega) HD.out.own.cap.2 ((HD.out.own.row.keepsN KV.out).take okF j) (by have := HN.out; simp [FE, List.length_take]; omega) (by have := HN.out; simp [List.length_take]; omega) ?_; intro o1 c1 w1 ho1 hap1; have hn1 := hap1.new (w0 := V) (new_none V) (Keeps.refl _ _); have q0 := hn1.2.cellN c0; have ho1' : Own FE w1 o1 c1 (fs.take j) := (by simpa using ho1); have p0 := hn1.2.cellN b0; have p1 := hn1.2.cellN b1; have p2 := hn1.2.cellN b2) | (refine wpList_app okF rfl (.tmp 29) (.tmp 31) rfl o1 j c1 (fs.take j) rfl (by have := HN.out; simp [List.length_take]; omega) (ho1'.keepsN (keeps_alloc w1 (.cells #[.string f.nm, .slice f.o nf f.c, .int .i64 ((f.sy : Nat) : Int)] 97))) (some ⟨w1.heap.size, 0, none⟩) 1 1 [f] rfl rfl (fun e => by cases e) (lit_row (E := FE) w1 f #[.string f.nm, .slice f.o nf f.c, .int .i64 ((f.sy : Nat) : Int)] 97 _ (by rw [HNF.out]; rfl)) (by have := HN.out; simp [FE, List.length_take]; omega) (by have := HN.out; simp [List.length_take]; omega) ?_; intro o2 c2 w2 ho2 hap2; have hn2 := hap2.new (w0 := V) hn1.1 (hn1.2.alloc _); have q2 := hn2.2.cellN c0) | (refine wpList_app okF rfl (.tmp 34) (.tmp 40) rfl o2 (j + 1) c2 (fs.take j ++ [f]) rfl (by have := HN.out; simp [List.length_take]; omega) ho2 A (N - j) dA (fs.drop j) rfl (by rw [List.length_drop]; have := HN.out; omega) HSL.out.nil (HSL.out.row.keepsN hn2.2) (by have := HN.out; simp [FE, List.length_take]; omega) (by have := HN.out; simp [List.length_take]; omega) ?_; intro o3 c3 w3 ho3 hap3; have hn3 := hap3.new (w0 := V) hn2.1 hn2.2; have q3 := hn3.2.cellN c0; have f3' : w3.frozen? ⟨r, 0, none⟩ = false := frozen_of_blk (hn3.2.at (KV.out.at HD.out.blk id) id) 0))
    go_end0
    have hset := keeps_set w3 r 0 (.slice o3 (j + 1 + (N - j)) c3)
    have hlen : (fs.take j ++ [f] ++ fs.drop j).length = j + 1 + (N - j) := by have := HN.out; simp; omega
    have hkF : Keeps (fun k => k = r) w (w3.setCell ⟨r, 0, none⟩ (.slice o3 (j + 1 + (N - j)) c3)) := (KV.out.trans hn3.2).of_no.trans hset
    have hVs := KV.out.size
    have ho3r : ¬ inO o3 r := fun h1 => by have := hn3.1 r h1; have := lt_of_block HD.out.blk; omega
    have hne : ∀ x ∈ fs, x.nm ≠ f.nm := fun x hx e => by
      have h1 := find_none.1 (miss_find HLO.out.1 HLO.out.2) x.ent (by rw [HD.out.eq]; exact List.mem_map_of_mem hx)
      exact h1 (by show x.nm.data.toList = _; rw [e])
    have hd' : RD (w3.setCell ⟨r, 0, none⟩ (.slice o3 (j + 1 + (N - j)) c3)) r (grow F w (w3.setCell ⟨r, 0, none⟩ (.slice o3 (j + 1 + (N - j)) c3))) { s with fs := put f.nm.data.toList ⟨f.bs, f.sy⟩ s.fs } o3 c3 (fs.take j ++ [f] ++ fs.drop j) := by
      refine rd_list HD.out ?_ (ho3.keeps hset (fun k h1 e => by subst e; exact ho3r h1)) (hkF.mono fun k e => .inl e) ?_ rfl rfl rfl (fun x hx => ?_) ?_ (fun k hk => .inl hk) (fun k hk => .inr ⟨Nat.le_trans hVs (hn3.1 k hk), Nat.lt_of_lt_of_le (ho3.lt k hk) hset.size⟩) (fun k hk => ?_) HOK.out
      · rw [hlen]
        exact blk_set (hn3.2.at (KV.out.at HD.out.blk id) id) 0 _
      · show put f.nm.data.toList ⟨f.bs, f.sy⟩ s.fs = _
        rw [miss_put HD.out.ok.inc HJ.out HLO.out.1 HLO.out.2, HD.out.eq]
        simp [List.map_take, List.map_drop, RF.ent]
      · simp only [List.mem_append, List.mem_singleton] at hx
        rcases hx with (h1 | h1) | h1
        · exact .inl (List.mem_of_mem_take h1)
        · subst h1; exact .inr ⟨HF.out.ow, HF.out.ow.ne HD.out.blk (by decide), HF.out.ow.neO HD.out.own (by decide), HF.out.ff⟩
        · exact .inl (List.mem_of_mem_drop h1)
      · have h0 := HD.out.apart
        rw [← List.take_append_drop j fs] at h0
        have h1 := List.pairwise_append.1 h0
        rw [List.append_assoc]
        refine List.pairwise_append.2 ⟨h1.1, List.pairwise_cons.2 ⟨fun x hx k => HF.out.ap x (List.mem_of_mem_drop hx) (hne x (List.mem_of_mem_drop hx)) k, h1.2.1⟩, fun a ha b hb k h2 h3 => ?_⟩
        rcases List.mem_cons.1 hb with rfl | hb
        · exact HF.out.ap a (List.mem_of_mem_take ha) (hne a (List.mem_of_mem_take ha)) k h3 h2
        · exact h1.2.2 a ha b hb k h2 h3
      · rcases hk with h1 | h1
        · exact Nat.lt_of_lt_of_le (HD.out.lt k h1) hkF.size
        · exact h1.2
    exact ⟨rfl, ⟨o3, c3, _, hd'⟩, hkF.mono fun k e => by subst e; exact HD.out.fr⟩
end Go.Proofs.Ytgobakfffobpkaa
