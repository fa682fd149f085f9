import Derived.Test.YtdemoghlibnooaaGreatDoorGHa
import Derived.Test.YtdemoghlibnooaaGreatDoorGX
namespace Go.Proofs.YtdemoghlibnooaaGreatDoor
open Go.RowKit Dk
set_option linter.unusedVariables false
set_option linter.unusedSimpArgs false
theorem rfull_any (w : World) (r : Nat) (F : Nat → Prop) (s : St) (h : IsRd w r F s) (n : Int) (hn : i64 n) :
    Calls Tryz.prog 34 #[.pointer (some ⟨r, 0, none⟩), .int .i64 n] w fun e w' => e = .returned (.tuple #[]) ∧ IsRd w' r F (full n s) ∧ Keeps F w w' := by
  obtain ⟨oF, cF, fs, h⟩ := h
  have c2 : w.cell? ⟨r, 2, none⟩ = some (.int .i64 ((s.ref : Nat) : Int)) := cell_of_blk h.blk 2
  have f2 : w.frozen? ⟨r, 2, none⟩ = false := frozen_of_blk h.blk 2
  have HE : Hid (max n 0 = ((n.toNat : Nat) : Int)) := (show _ = _ by omega)
  go_enter Tryz.func34, Tryz.ntmps34
  go_wp2
  go_end0
  rw [HE.out]
  have hk := keeps_setG w r 2 (.int .i64 ((n.toNat : Nat) : Int))
  refine ⟨rfl, ⟨oF, cF, fs, h.cells hk ?_ rfl (full_ok h.ok) h.ci h.ki (by have := hn.2; simp [full]; omega)⟩, hk.mono (fun i e => by subst e; exact h.fr)⟩
  exact blk_set h.blk 2 (.int .i64 ((n.toNat : Nat) : Int))
set_option maxRecDepth 100000 in
theorem gone_any (w : World) (r : Nat) (F : Nat → Prop) (s : St) (j : Nat) (oF : Option Addr) (cF : Nat) (fs : List RF) (hd : RDW w r F s oF cF fs) (hj : j < s.fs.length) :
    Calls Tryz.prog 122 #[.pointer (some ⟨r, 0, none⟩), .int .i64 ((j : Nat) : Int)] w fun e w' => e = .returned (.tuple #[]) ∧ (∃ o2 c2, RDW w' r (grow F w w') { s with fs := del (s.fs[j].1) s.fs } o2 c2 (fs.take j ++ fs.drop (j + 1))) ∧ Keeps (fun k => k = r) w w' := by
  obtain ⟨hjf, hent⟩ := hd.at hj
  obtain ⟨N, hN⟩ : ∃ N, N = fs.length := ⟨_, rfl⟩
  have c0 : w.cell? ⟨r, 0, none⟩ = some (.slice oF N cF) := by rw [hN]; exact cell_of_blk hd.blk 0
  have hjN : j < N := by omega
  have h16 : N ≤ 16 := by have := hd.ok.len; have := hd.len; omega
  have hcut := cutORfile oF N cF j (by have := hd.own.cap.1; omega) hd.own.cap.2
  obtain ⟨A, dA, hcl, hsl⟩ := cutL80 w oF cF fs N (j + 1) hN (by omega) hd.own.sl
  have HD : Hid (RDW w r F s oF cF fs) := hd
  have HN : Hid (N = fs.length) := hN
  have HSL : Hid (Sl FE w A dA (fs.drop (j + 1))) := hsl
  have HDL : Hid (del (s.fs[j].1) s.fs = (fs.take j ++ fs.drop (j + 1)).map RF.ent) := (show _ = _ by rw [hit_del hd.ok.inc hj rfl, hd.eq]; simp [List.map_take, List.map_drop])
  rw [show ((j + 1 : Nat) : Int) = (j : Int) + 1 from rfl] at hcl
  clear hd hN hsl hent hjf
  go_enter Tryz.func122, Tryz.ntmps122
  go_wp2_with (at_builtin; first | (refine wpList_app okF rfl (.tmp 5) (.tmp 11) rfl none 0 0 [] rfl rfl (own_nil _) oF j cF (fs.take j) rfl (by rw [List.length_take]; have := HN.out; omega) HD.out.own.cap.2 (HD.out.own.row.take okF j) (by have := HN.out; simp [FE, List.length_take]; omega) (by have := HN.out; simp [List.length_take]; omega) ?_; intro o1 c1 w1 ho1 hap1; have hn1 := hap1.new (w0 := w) (new_none w) (Keeps.refl _ _); have c1' := hn1.2.cellN c0; have ho1' : Own FE w1 o1 c1 (fs.take j) := (by simpa using ho1)) | (refine wpList_app okF rfl (.tmp 14) (.tmp 21) rfl o1 j c1 (fs.take j) rfl (by have := HN.out; simp [List.length_take]; omega) ho1' A (N - (j + 1)) dA (fs.drop (j + 1)) rfl (by rw [List.length_drop]; have := HN.out; omega) HSL.out.nil (HSL.out.row.keepsN hn1.2) (by have := HN.out; simp [FE, List.length_take]; omega) (by have := HN.out; simp [List.length_take]; omega) ?_; intro o2 c2 w2 ho2 hap2; have hn2 := hap2.new (w0 := w) hn1.1 hn1.2; have c2' := hn2.2.cellN c0; have f2' : w2.frozen? ⟨r, 0, none⟩ = false := frozen_of_blk (hn2.2.at HD.out.blk id) 0))
  go_end0
  have hset := keeps_setG w2 r 0 (.slice o2 (j + (N - (j + 1))) c2)
  have hlen : (fs.take j ++ fs.drop (j + 1)).length = j + (N - (j + 1)) := by have := HN.out; simp; omega
  have hkF : Keeps (fun k => k = r) w (w2.setCell ⟨r, 0, none⟩ (.slice o2 (j + (N - (j + 1))) c2)) := hn2.2.of_no.trans hset
  have ho2r : ¬ inO o2 r := fun h1 => by have := hn2.1 r h1; have := lt_of_block HD.out.blk; omega
  have hd' : RDW (w2.setCell ⟨r, 0, none⟩ (.slice o2 (j + (N - (j + 1))) c2)) r (grow F w (w2.setCell ⟨r, 0, none⟩ (.slice o2 (j + (N - (j + 1))) c2))) { s with fs := del (s.fs[j].1) s.fs } o2 c2 (fs.take j ++ fs.drop (j + 1)) := by
    refine rd_list HD.out ?_ (ho2.keeps hset (fun k h1 e => by subst e; exact ho2r h1)) (hkF.mono fun k e => .inl e) HDL.out rfl rfl rfl (fun x hx => .inl ?_) (HD.out.apart.sublist ?_) (fun k hk => .inl hk) (fun k hk => .inr ⟨hn2.1 k hk, Nat.lt_of_lt_of_le (ho2.lt k hk) hset.size⟩) (fun k hk => ?_) (ok_del HD.out.ok)
    · rw [hlen]
      exact blk_set (hn2.2.at HD.out.blk id) 0 _
    · rcases List.mem_append.1 hx with h1 | h1
      · exact List.mem_of_mem_take h1
      · exact List.mem_of_mem_drop h1
    · have e : fs.take j ++ fs.drop (j + 1) = fs.eraseIdx j := (List.eraseIdx_eq_take_drop_succ ..).symm
      rw [e]
      exact List.eraseIdx_sublist ..
    · rcases hk with h1 | h1
      · exact Nat.lt_of_lt_of_le (HD.out.lt k h1) hkF.size
      · exact h1.2
  exact ⟨rfl, ⟨o2, c2, hd'⟩, hkF⟩
set_option maxRecDepth 100000 in
theorem rdelete_any (w : World) (r : Nat) (F : Nat → Prop) (s : St) (n : Tx) (h : IsRd w r F s) :
    Calls Tryz.prog 79 #[.pointer (some ⟨r, 0, none⟩), .string n] w fun e w' => e = .returned (.int .i64 (counted s (deleteOn n.data.toList)).2) ∧ IsRd w' r (grow F w w') (counted s (deleteOn n.data.toList)).1 ∧ Keeps F w w' := by
  obtain ⟨t, ht⟩ : ∃ t, t = tick s := ⟨_, rfl⟩
  rw [counted_cT, ← ht]
  have HT : Hid (t = tick s) := ht
  clear ht
  go_enter Tryz.func79, Tryz.ntmps79
  go_wp2_with fail
  refine (rcounted_any w r F s h).mono ?_
  rw [← HT.out]
  rintro e w1 ⟨rfl, h1, HK⟩
  cases ho : t.off with
  | true =>
    go_wp2
    go_ret
    rw [cT_off ho]
    exact ⟨rfl, h1.grow, HK⟩
  | false =>
  go_wp2_with fail
  refine (at_any w1 r F t n h1).mono ?_
  rintro e w2 ⟨v, rfl, hv, hw⟩
  subst w2
  cases hv.out with
  | miss j hj lo hi =>
    have hneg : -1 - ((j : Nat) : Int) < 0 := by omega
    have h16 : j ≤ 16 := by have := h1.ok.len; omega
    go_wp2
    go_ret
    rw [cT_on ho, deleteOn, onF_none (miss_find lo hi)]
    exact ⟨rfl, h1.grow, HK⟩
  | hit j hj hn =>
    have h16 : j ≤ 16 := by have := h1.ok.len; omega
    have HFF : Hid (find n.data.toList t.fs = some t.fs[j].2) := hit_find h1.ok.inc hj hn
    obtain ⟨oF, cF, fs, hd⟩ := h1
    have HD : Hid (RDW w1 r F t oF cF fs) := hd
    have HN : Hid (t.fs[j].1 = n.data.toList) := hn
    clear hd hn hv
    go_wp2_with fail
    refine (gone_any w1 r F t j oF cF fs HD.out hj).mono ?_
    rintro e w2 ⟨rfl, ⟨o2, c2, h2⟩, hk2⟩
    go_wp2
    go_ret
    rw [cT_on ho, deleteOn, onF_some HFF.out]
    rw [HN.out] at h2
    exact ⟨rfl, IsRd.regrow ⟨o2, c2, _, h2⟩ HK.size, HK.trans (hk2.mono fun k e => by subst e; exact HD.out.fr)⟩
set_option maxRecDepth 100000 in
theorem rrename_any (w : World) (r : Nat) (F : Nat → Prop) (s : St) (a n : Tx) (h : IsRd w r F s) :
    Calls Tryz.prog 81 #[.pointer (some ⟨r, 0, none⟩), .string a, .string n] w fun e w' => e = .returned (.int .i64 (counted s (renameOn a.data.toList n.data.toList)).2) ∧ IsRd w' r (grow F w w') (counted s (renameOn a.data.toList n.data.toList)).1 ∧ Keeps F w w' := by
  obtain ⟨t, ht⟩ : ∃ t, t = tick s := ⟨_, rfl⟩
  rw [counted_cT, ← ht]
  have HT : Hid (t = tick s) := ht
  clear ht
  go_enter Tryz.func81, Tryz.ntmps81
  go_wp2_with fail
  refine (rcounted_any w r F s h).mono ?_
  rw [← HT.out]
  rintro e w1 ⟨rfl, h1, HK⟩
  cases ho : t.off with
  | true =>
    go_wp2
    go_ret
    rw [cT_off ho]
    exact ⟨rfl, h1.grow, HK⟩
  | false =>
  go_wp2_with fail
  refine (named_any w1 n).mono ?_
  rintro e w1' ⟨rfl, e2⟩
  subst w1'
  cases hg : good n.data.toList with
  | false =>
    go_wp2
    go_ret
    rw [cT_on ho, renameOn, hg]
    exact ⟨rfl, h1.grow, HK⟩
  | true =>
  go_wp2_with fail
  refine (at_any w1 r F t a h1).mono ?_
  rintro e w2 ⟨v, rfl, hv, hw⟩
  subst w2
  cases hv.out with
  | miss j hj lo hi =>
    have hneg : -1 - ((j : Nat) : Int) < 0 := by omega
    have h16 : j ≤ 16 := by have := h1.ok.len; omega
    go_wp2
    go_ret
    rw [cT_on ho, renameOn, if_pos hg, onF_none (miss_find lo hi)]
    exact ⟨rfl, h1.grow, HK⟩
  | hit j hj hn =>
    have h16 : j ≤ 16 := by have := h1.ok.len; omega
    have HFF := hit_find h1.ok.inc hj hn
    obtain ⟨oF, cF, fs, hd⟩ := h1
    obtain ⟨hjf, hent⟩ := hd.at hj
    rw [hent] at HFF
    obtain ⟨g, hog, d0, d1, d2, fz⟩ := ownF_at hd.own hjf
    obtain ⟨N, hN⟩ : ∃ N, N = fs.length := ⟨_, rfl⟩
    have c0 : w1.cell? ⟨r, 0, none⟩ = some (.slice (some ⟨g, 0, none⟩) N cF) := by rw [hN, ← hog]; exact cell_of_blk hd.blk 0
    have hjN : j < N := by omega
    have hN16 : N ≤ 16 := by have := hd.ok.len; have := hd.len; omega
    have hmem := getD_mem fs j rf0 hjf
    have hOw := hd.each _ hmem
    have hff := hd.ff _ hmem
    have hfr := hd.f_r hmem
    have hapj := fun i (hi : i < fs.length) (hne : i ≠ j) => apart_getD hd.apart hjf hi (Ne.symm hne)
    obtain ⟨f, hfe⟩ : ∃ f, f = fs.getD j rf0 := ⟨_, rfl⟩
    rw [← hfe] at d0 d1 d2 HFF hOw hff hfr hapj
    obtain ⟨nf, hnf⟩ : ∃ nf, nf = f.bs.length := ⟨_, rfl⟩
    rw [← hnf] at d1
    have HD : Hid (RDW w1 r F t oF cF fs) := hd
    have HN : Hid (t.fs[j].1 = a.data.toList) := hn
    have HE : Hid (find a.data.toList t.fs = some ⟨f.bs, f.sy⟩) := HFF
    have HO : Hid (OwW w1 f.o f.c f.bs ∧ (∀ k, inO f.o k → F k) ∧ ¬ inO f.o r ∧ ∀ i, i < fs.length → i ≠ j → ∀ k, inO f.o k → ¬ inO (fs.getD i rf0).o k) := ⟨hOw, hff, hfr, hapj⟩
    have HNF : Hid (nf = f.bs.length) := hnf
    have HOK : Hid (Ok (renameOn a.data.toList n.data.toList t).1) := renameOn_ok hd.ok
    have HLT : Hid (r < w1.heap.size) := lt_of_block hd.blk
    clear hd hn hv HFF hOw hff hfr hapj hnf hfe hmem fz hN hog hent
    go_wp2_with fail
    refine (gone_any _ r F t j oF cF fs (HD.out.keeps (keeps_alloc w1 (.cells #[.string f.nm, .slice f.o nf f.c, .int .i64 ((f.sy : Nat) : Int)] 133)) (fun _ _ => id)) hj).mono ?_
    rintro e w2 ⟨rfl, ⟨o2, c2, h2⟩, hk2⟩
    rw [HN.out] at h2
    have hnr : ¬ w1.heap.size = r := by have := HLT.out; omega
    have bW := hk2.at (blk_new w1 (.cells #[.string f.nm, .slice f.o nf f.c, .int .i64 ((f.sy : Nat) : Int)] 133)) hnr
    obtain ⟨B, hB⟩ : ∃ B, B = w1.heap.size := ⟨_, rfl⟩
    rw [← hB] at bW ⊢
    have e0 : w2.cell? ⟨B, 0, none⟩ = some (.string f.nm) := cell_of_blk bW 0
    have e1 : w2.cell? ⟨B, 1, none⟩ = some (.slice f.o nf f.c) := cell_of_blk bW 1
    have e2 : w2.cell? ⟨B, 2, none⟩ = some (.int .i64 ((f.sy : Nat) : Int)) := cell_of_blk bW 2
    have z0 : w2.frozen? ⟨B, 0, none⟩ = false := frozen_of_blk bW 0
    have hBF : ∀ k, grow F (w1.alloc (.cells #[.string f.nm, .slice f.o nf f.c, .int .i64 ((f.sy : Nat) : Int)] 133)) w2 k → k ≠ B := fun k hk e => by
      rcases hk with h1 | h1
      · have := HD.out.lt k h1; omega
      · have := h1.1; simp only [World.size_alloc] at this; omega
    have hset := keeps_setG w2 B 0 (.string n)
    have h3 := h2.keeps hset hBF
    have hk3 : Keeps (fun k => k = r) w1 (w2.setCell ⟨B, 0, none⟩ (.string n)) := ((keeps_alloc w1 _).of_no.trans hk2).then hset (fun i hi => .inr (by subst hi; omega))
    have b3 := blk_set bW 0 (.string n)
    have H3 : Hid (RDW (w2.setCell ⟨B, 0, none⟩ (.string n)) r (grow F (w1.alloc (.cells #[.string f.nm, .slice f.o nf f.c, .int .i64 ((f.sy : Nat) : Int)] 133)) w2) { t with fs := del a.data.toList t.fs } o2 c2 (fs.take j ++ fs.drop (j + 1))) := h3
    have HFit : Hid (Fit (w2.setCell ⟨B, 0, none⟩ (.string n)) (grow F (w1.alloc (.cells #[.string f.nm, .slice f.o nf f.c, .int .i64 ((f.sy : Nat) : Int)] 133)) w2) (fs.take j ++ fs.drop (j + 1)) ⟨n, f.o, f.c, f.bs, f.sy⟩) := (show _ from by
      refine ⟨HO.out.1.keeps hk3 (fun k h1 e => by subst e; exact HO.out.2.2.1 h1), fun x hx _ => ?_, fun k hk => .inl (HO.out.2.1 k hk)⟩
      rcases List.mem_append.1 hx with h1 | h1
      · obtain ⟨i, hi, rfl⟩ := List.getElem_of_mem h1
        simp at hi
        rw [List.getElem_take]
        have := HO.out.2.2.2 i (by omega) (by omega)
        rwa [show fs.getD i rf0 = fs[i] by simp [List.getD_eq_getElem?_getD, show i < fs.length by omega]] at this
      · obtain ⟨i, hi, rfl⟩ := List.getElem_of_mem h1
        simp at hi
        rw [List.getElem_drop]
        have := HO.out.2.2.2 (j + 1 + i) (by omega) (by omega)
        rwa [show fs.getD (j + 1 + i) rf0 = fs[j + 1 + i] by simp [List.getD_eq_getElem?_getD, show j + 1 + i < fs.length by omega]] at this)
    have HK3 : Hid (Keeps (fun k => k = r) w1 (w2.setCell ⟨B, 0, none⟩ (.string n)) ∧ w1.heap.size ≤ w2.heap.size) := ⟨hk3, by have := hk2.size; simp at this; omega⟩
    have HOK2 : Hid (Ok { t with fs := put n.data.toList ⟨f.bs, f.sy⟩ (del a.data.toList t.fs) }) := (show _ from by
      have := HOK.out
      rw [renameOn, if_pos hg, onF_some HE.out] at this
      exact this)
    clear h2 hk2 bW hset h3 hk3 b3 hBF hB hnr
    go_wp2_with fail
    refine (put_any _ r _ { t with fs := del a.data.toList t.fs } o2 c2 (fs.take j ++ fs.drop (j + 1)) ⟨n, f.o, f.c, f.bs, f.sy⟩ nf HNF.out H3.out HFit.out HOK2.out).mono ?_
    rintro e w4 ⟨rfl, h4, hk4⟩
    go_wp2
    go_ret
    rw [cT_on ho, renameOn, if_pos hg, onF_some HE.out]
    have hs4 := hk4.size
    simp only [World.size_setCell] at hs4
    refine ⟨rfl, ?_, ?_⟩
    · obtain ⟨o4, c4, fs4, h4⟩ := h4
      refine ⟨o4, c4, fs4, h4.wide (fun k hk => ?_) (fun k hk => ?_)⟩
      · rcases hk with (h1 | h1) | h1
        · exact .inl h1
        · have h2 := h1.1
          simp only [World.size_alloc] at h2
          have := HK.size
          exact .inr ⟨by omega, by omega⟩
        · have h2 := h1.1
          simp only [World.size_setCell] at h2
          have := HK.size
          have := HK3.out.2
          exact .inr ⟨by omega, h1.2⟩
      · rcases hk with h1 | h1
        · exact h4.lt k (.inl (.inl h1))
        · exact h1.2
    · refine HK.trans ((HK3.out.1.mono fun k e => by subst e; exact HD.out.fr).then hk4 (fun k hk => ?_))
      rcases hk with h1 | h1
      · exact .inl h1
      · have h2 := h1.1
        simp only [World.size_alloc] at h2
        exact .inr (by omega)
end Go.Proofs.YtdemoghlibnooaaGreatDoor
