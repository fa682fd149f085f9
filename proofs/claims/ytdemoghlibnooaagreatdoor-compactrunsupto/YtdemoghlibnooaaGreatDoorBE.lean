import Derived.Test.YtdemoghlibnooaaGreatDoorBC
import Derived.Test.YtdemoghlibnooaaGreatDoorA2
namespace Go.Proofs.YtdemoghlibnooaaGreatDoor
open Go.RowKit Go.Sort Orl Pk Go.Maps
set_option linter.unusedVariables false
set_option linter.unusedSimpArgs false
theorem Stay.refl (a : World) : Stay a a := fun g cs t fr hg _ _ => hg
theorem Own.stay {α : Type} {E : El α} {w w' : World} {o : Option Addr} {c : Nat} {xs : List α} (hE : E.Ok) (h : Own E w o c xs) (k : Stay w w') (h1 : E.e ≠ 266) (h2 : E.e ≠ 5) : Own E w' o c xs := by
  rcases h.shape with ⟨rfl, rfl, rfl⟩ | ⟨g, cur, rfl, hg, q1, q2, q3, q4⟩
  · exact own_nil w'
  · exact own_of_shape hE (k g _ _ _ hg h1 h2) q1 q2 q3 q4
structure Wt (w : World) (a : Nat) (bs : List Nat) (wr : World) : Prop where
  is : ∃ o c, IsW 266 wr a o c 9223372036854775807 bs 0 ∧ New w o
  new : w.heap.size ≤ a
  keep : Keeps no w wr
theorem Wt.go {w : World} {a : Nat} {bs : List Nat} {wr wr' : World} (h : Wt w a bs wr) (hk : Keeps no wr wr') : Wt w a bs wr' := by
  obtain ⟨⟨o, c, h1, h2⟩, h3, h4⟩ := h
  exact ⟨⟨o, c, h1.keeps hk (fun _ _ => id), h2⟩, h3, h4.trans hk⟩
theorem wt_new (w : World) : Calls Tryz.prog 143 #[.int .i64 9223372036854775807] w fun e w' => ∃ a, e = .returned (.pointer (some ⟨a, 0, none⟩)) ∧ Hid (Wt w a [] w') := by
  refine (newWriter_any 9223372036854775807 w (by omega) (by omega)).mono ?_
  rintro e w' ⟨rfl, h, hk⟩
  exact ⟨_, rfl, ⟨none, 0, h, new_none w⟩, Nat.le_refl _, hk⟩
theorem Wt.step {w : World} {a : Nat} {bs news : List Nat} {wr w' : World} {o : Option Addr} {c : Nat} (h1 : IsW 266 wr a o c 9223372036854775807 bs 0) (h2 : New w o) (hn : w.heap.size ≤ a) (hk : Keeps no w wr) (hl : bs.length + news.length ≤ 140737488355328) (hs : WStep 266 wr a o 9223372036854775807 (lay 9223372036854775807 (bs, 0) news) w') : Wt w a (bs ++ news) w' ∧ Stay wr w' := by
  rw [lay_fits _ _ _ (by omega)] at hs
  obtain ⟨o1, c1, hW, hF, hK⟩ := hs
  refine ⟨⟨⟨o1, c1, hW, ?_⟩, hn, hk.then hK ?_⟩, h1.stay hK⟩
  · intro k hk'
    rcases hF.in k hk' with h | h
    · exact h2 k h
    · exact Nat.le_trans hk.size h
  · rintro i (rfl | hi)
    · exact .inr hn
    · exact .inr (h2 i hi)
theorem lay_len {bs news : List Nat} (hl : bs.length + news.length ≤ 140737488355328) : (lay 9223372036854775807 (bs, 0) news).1.length ≤ 140737488355328 := by
  rw [lay_fits _ _ _ (by omega), List.length_append]; exact hl
theorem Wt.u8 {w : World} {a : Nat} {bs : List Nat} {wr : World} (h : Wt w a bs wr) (v : Nat) (hv : v < 256) (hl : bs.length + 1 ≤ 140737488355328) :
    Calls Tryz.prog 145 #[.pointer (some ⟨a, 0, none⟩), .int .u8 (v : Nat)] wr fun e w' => e = .returned (.tuple #[]) ∧ Hid (Wt w a (bs ++ num 1 v) w' ∧ Stay wr w') := by
  obtain ⟨⟨o, c, h1, h2⟩, h3, h4⟩ := h
  have hl' : bs.length + (num 1 v).length ≤ 140737488355328 := by rw [num_length]; exact hl
  refine (wU8_any wr a o c _ bs 0 v hv h1 (lay_len hl')).mono ?_
  rintro e w' ⟨he, hs⟩
  exact ⟨he, Wt.step h1 h2 h3 h4 hl' hs⟩
theorem Wt.u32 {w : World} {a : Nat} {bs : List Nat} {wr : World} (h : Wt w a bs wr) (v : Nat) (hv : v < 4294967296) (hl : bs.length + 4 ≤ 140737488355328) :
    Calls Tryz.prog 144 #[.pointer (some ⟨a, 0, none⟩), .int .u32 (v : Nat)] wr fun e w' => e = .returned (.tuple #[]) ∧ Hid (Wt w a (bs ++ num 4 v) w' ∧ Stay wr w') := by
  obtain ⟨⟨o, c, h1, h2⟩, h3, h4⟩ := h
  have hl' : bs.length + (num 4 v).length ≤ 140737488355328 := by rw [num_length]; exact hl
  refine (wU32_any wr a o c _ bs 0 v hv h1 (lay_len hl')).mono ?_
  rintro e w' ⟨he, hs⟩
  exact ⟨he, Wt.step h1 h2 h3 h4 hl' hs⟩
theorem Wt.u64 {w : World} {a : Nat} {bs : List Nat} {wr : World} (h : Wt w a bs wr) (v : Nat) (hv : v < 18446744073709551616) (hl : bs.length + 8 ≤ 140737488355328) :
    Calls Tryz.prog 146 #[.pointer (some ⟨a, 0, none⟩), .int .u64 (v : Nat)] wr fun e w' => e = .returned (.tuple #[]) ∧ Hid (Wt w a (bs ++ num 8 v) w' ∧ Stay wr w') := by
  obtain ⟨⟨o, c, h1, h2⟩, h3, h4⟩ := h
  have hl' : bs.length + (num 8 v).length ≤ 140737488355328 := by rw [num_length]; exact hl
  refine (wU64_any wr a o c _ bs 0 v hv h1 (lay_len hl')).mono ?_
  rintro e w' ⟨he, hs⟩
  exact ⟨he, Wt.step h1 h2 h3 h4 hl' hs⟩
theorem Wt.text {w : World} {a : Nat} {bs : List Nat} {wr : World} (h : Wt w a bs wr) (s : Tx) (hl : bs.length + 4 + s.size ≤ 140737488355328) (hs : s.size ≤ 140737488351232) :
    Calls Tryz.prog 187 #[.pointer (some ⟨a, 0, none⟩), .string s] wr fun e w' => e = .returned (.tuple #[]) ∧ Hid (Wt w a (bs ++ txt (nats s)) w' ∧ Stay wr w') := by
  obtain ⟨⟨o, c, h1, h2⟩, h3, h4⟩ := h
  have hl' : bs.length + (txt (nats s)).length ≤ 140737488355328 := by rw [txt_length, nats_length]; omega
  refine (wText_any wr a o c _ bs 0 s hs h1 (lay_len hl')).mono ?_
  rintro e w' ⟨he, hs⟩
  exact ⟨he, Wt.step h1 h2 h3 h4 hl' hs⟩
theorem tag_w : 266 ≠ 9 ∧ (5 : Nat) ≠ 9 := by decide
theorem Wt.texts {w : World} {a : Nat} {bs : List Nat} {wr : World} (h : Wt w a bs wr) (ol : Option Addr) (n c : Nat) (ss : List Tx) (hn : n = ss.length) (ho : Own TE wr ol c ss) (hs : ∀ s ∈ ss, s.size ≤ 65535) (hln : ss.length ≤ 1024) (hl : bs.length + 4 + bodyLen (natss ss) ≤ 140737488355328) :
    Calls Tryz.prog 188 #[.pointer (some ⟨a, 0, none⟩), .slice ol n c] wr fun e w' => e = .returned (.tuple #[]) ∧ Hid (Wt w a (bs ++ txts (natss ss)) w' ∧ Stay wr w') := by
  obtain ⟨⟨o, cc, h1, h2⟩, h3, h4⟩ := h
  have hl' : bs.length + (txts (natss ss)).length ≤ 140737488355328 := by rw [txts_length]; omega
  refine (wTexts_any wr a o cc _ bs 0 ol n c ss hn (rowS_of ho.sl) (fun s h' => by have := hs s h'; omega) (by omega) ?_ (.inl (by omega)) h1 (lay_len hl')).mono ?_
  · intro x hx
    have hin : inO ol x.block := ⟨x, hx, rfl⟩
    refine ⟨?_, ho.lt _ hin⟩
    obtain ⟨cur, hc⟩ := ho.tag _ hin
    rintro (e | hi)
    · rw [e, h1.blk] at hc
      injection hc with hc
      injection hc with _ hc _
      exact tag_w.1 hc
    · rcases h1.row.shape with ⟨e, _⟩ | ⟨g', cur', e, hg', _⟩
      · obtain ⟨y, e', _⟩ := hi; rw [e] at e'; cases e'
      · obtain ⟨y, e', hy⟩ := hi
        rw [e] at e'; cases e'
        simp only at hy
        rw [← hy, hg'] at hc
        injection hc with hc
        injection hc with _ hc _
        exact tag_w.2 hc
  · rintro e w' ⟨he, hs⟩
    exact ⟨he, Wt.step h1 h2 h3 h4 hl' hs⟩
theorem Wt.out {w : World} {a : Nat} {bs : List Nat} {wr : World} (h : Wt w a bs wr) :
    Calls Tryz.prog 149 #[.pointer (some ⟨a, 0, none⟩)] wr fun e w' => ∃ o n c, e = .returned (.tuple #[.slice o n c, .int .i64 0]) ∧ Hid (n = bs.length ∧ Owns w' o c bs ∧ New wr o ∧ Keeps no wr w') := by
  obtain ⟨⟨o, c, h1, h2⟩, h3, h4⟩ := h
  refine (wOut_any wr a o c _ bs 0 h1).mono ?_
  rintro e w' ⟨hk, (⟨h0, _⟩ | ⟨_, o', c', he, ho, hn⟩)⟩
  · exact absurd rfl h0
  · exact ⟨o', _, c', he, rfl, ho, hn, hk⟩
end Go.Proofs.YtdemoghlibnooaaGreatDoor
namespace Go.Proofs.YtdemoghlibnooaaGreatDoor
open Go.RowKit Go.Maps Go.Sort Orl Pk
set_option linter.unusedVariables false
set_option linter.unusedSimpArgs false
theorem tagsW : 116 ≠ 266 ∧ 116 ≠ 5 ∧ 114 ≠ 266 ∧ 114 ≠ 5 := by decide
theorem layL_snoc (ls : List Mk) (k : Nat) (h : k < ls.length) : layL (ls.take (k + 1)) = layL (ls.take k) ++ layL1 (ls.getD k (e0, 0)) := by
  rw [take_succ_getD ls k (e0, 0) h]
  simp [layL]
theorem layL_take (ls : List Mk) (k : Nat) : (layL (ls.take k)).length ≤ (layL ls).length := by
  have : layL ls = layL (ls.take k) ++ layL (ls.drop k) := by unfold layL; rw [← List.flatMap_append, List.take_append_drop]
  rw [this, List.length_append]; omega
set_option maxRecDepth 10000 in
theorem layLasts_any {w : World} {a : Nat} {bs : List Nat} {wr : World} (h : Wt w a bs wr) (o : Option Addr) (n c : Nat) (ls : List Mk) (hn : n = ls.length) (ho : Own LE wr o c ls) (hl : ∀ l ∈ ls, LimL l) (hb : bs.length + 4 + (layL ls).length ≤ 140737488355328) :
    Calls Tryz.prog 147 #[.pointer (some ⟨a, 0, none⟩), .slice o n c] wr fun e w' => e = .returned (.tuple #[]) ∧ Hid (Wt w a (bs ++ (num 4 ls.length ++ layL ls)) w' ∧ Stay wr w') := by
  have hle := layL_le ls
  have hnb : (n : Int) ≤ 140737488355328 := by omega
  have HB : Hid (n = ls.length ∧ bs.length + 4 + (layL ls).length ≤ 140737488355328 ∧ (∀ l ∈ ls, LimL l) ∧ Own LE wr o c ls ∧ Wt w a bs wr) := ⟨hn, hb, hl, ho, h⟩
  clear hn hb hl ho h hle
  go_enter Tryz.func147, Tryz.ntmps147
  go_wp2_with fail
  rw [show ((n : Int) % 4294967296) = ((n % 4294967296 : Nat) : Int) by omega]
  refine (HB.out.2.2.2.2.u32 (n % 4294967296) (by omega) (by have := HB.out.2.1; omega)).mono ?_
  rintro e w1 ⟨rfl, H1⟩
  rw [num4_mod] at H1
  go_wp2_with fail
  go_loopw [5, 13] (fun _ i wq => ∃ k : Nat, k ≤ n ∧ i = .int .i64 k ∧ Hid (Wt w a (bs ++ num 4 n ++ layL (ls.take k)) wq ∧ Stay wr wq)) (fun _ i _ => n - (intOf i).toNat)
  case atStart => exact ⟨0, by omega, rfl, by simpa [layL] using H1.out.1, H1.out.2⟩
  case round =>
    rename World => wq
    obtain ⟨k, hk, rfl, HW⟩ := hrel
    by_cases hlt : k < n
    · have hks : k < ls.length := by have := HB.out.1; omega
      obtain ⟨b1, off1, e1, d0, d1⟩ := (HB.out.2.2.2.1.stay okL HW.out.2 tagsW.1 tagsW.2.1).sl.atL hks
      obtain ⟨x, hx⟩ : ∃ x, x = ls.getD k (e0, 0) := ⟨_, rfl⟩
      rw [← hx] at d0 d1
      have hlim := HB.out.2.2.1 x (by rw [hx]; exact getD_mem_lt _ hks)
      have e2 := layL_snoc ls k hks
      have e3 := layL_take ls (k + 1)
      rw [← hx] at e2
      rw [e2, List.length_append, layL1_length] at e3
      have HX : Hid (layL (ls.take (k + 1)) = layL (ls.take k) ++ layL1 x) := e2
      have HL : Hid ((bs ++ num 4 n ++ layL (ls.take k)).length + 12 + x.1.size ≤ 140737488355328) := (show _ ≤ _ by
        rw [List.length_append, List.length_append, num_length]; have := HB.out.2.1; omega)
      obtain ⟨x1, x2⟩ := x
      have HM : Hid (x1.size ≤ 65535 ∧ x2 < 18446744073709551616) := hlim
      simp only at d0 d1
      generalize hX : bs ++ num 4 n ++ layL (ls.take k) = X at HW HL
      have HX2 : Hid (bs ++ num 4 n ++ layL (ls.take k) = X) := hX
      clear hX hlim hx e2 e3 hks
      subst e1
      have hW1 := HW.out.1.go ((Keeps.refl no wq).alloc (.cells #[.string x1, .int .u64 ((x2 : Nat) : Int)] 116))
      have HT := hW1.text x1 (by have := HL.out; (try simp only at this); omega) (by have := HM.out; omega)
      clear hW1
      go_wp2_with fail
      refine HT.mono ?_
      rintro e w2 ⟨rfl, H2⟩
      clear HT
      have f1 : w2.cell? ⟨wq.heap.size, 1, none⟩ = some (.int .u64 ((x2 : Nat) : Int)) := cell_of_blk (H2.out.2 _ _ _ _ (blk_new wq (.cells #[.string x1, .int .u64 ((x2 : Nat) : Int)] 116)) tagsW.1 tagsW.2.1) 1
      go_wp2_with fail
      refine (H2.out.1.u64 x2 HM.out.2 (by have := HL.out; (try simp only at this); rw [List.length_append, txt_length, nats_length]; omega)).mono ?_
      rintro e w3 ⟨rfl, H3⟩
      go_wp2_with fail
      go_roundw
      case rel =>
        refine ⟨k + 1, by omega, by go_num, ?_, ((HW.out.2.trans (Stay.of_keeps ((Keeps.refl no wq).alloc _))).trans H2.out.2).trans H3.out.2⟩
        have := H3.out.1
        rw [HX.out, ← List.append_assoc, HX2.out]
        unfold layL1
        rw [← List.append_assoc]
        exact this
      case measure => simp [intOf]; omega
    · go_wp2_with fail
      go_end0
      have e1 : ls.take k = ls := List.take_of_length_le (by have := HB.out.1; omega)
      have := HW.out
      rw [e1, List.append_assoc, HB.out.1] at this
      exact ⟨rfl, this⟩
theorem layV_snoc (ks : List KV) (k : Nat) (h : k < ks.length) : layV (vts (ks.take (k + 1))) = layV (vts (ks.take k)) ++ layV1 (ks.getD k kv0).vt := by
  rw [take_succ_getD ks k kv0 h]
  simp [layV, vts]
theorem layV_take (ks : List KV) (k : Nat) : (layV (vts (ks.take k))).length ≤ (layV (vts ks)).length := by
  have : layV (vts ks) = layV (vts (ks.take k)) ++ layV (vts (ks.drop k)) := by unfold layV vts; rw [← List.flatMap_append, ← List.map_append, List.take_append_drop]
  rw [this, List.length_append]; omega
set_option maxRecDepth 10000 in
theorem layVersions_any {w : World} {a : Nat} {bs : List Nat} {wr : World} (h : Wt w a bs wr) (o : Option Addr) (n c : Nat) (ks : List KV) (hn : n = ks.length) (ho : Own KE wr o c ks) (hky : ∀ x ∈ ks, Own TE wr x.o x.c x.keys) (hl : ∀ v ∈ vts ks, LimV v) (hb : bs.length + 4 + (layV (vts ks)).length ≤ 140737488355328) :
    Calls Tryz.prog 148 #[.pointer (some ⟨a, 0, none⟩), .slice o n c] wr fun e w' => e = .returned (.tuple #[]) ∧ Hid (Wt w a (bs ++ (num 4 ks.length ++ layV (vts ks))) w' ∧ Stay wr w') := by
  have hle := layV_le (vts ks)
  have hlv : (vts ks).length = ks.length := by simp [vts]
  have hnb : (n : Int) ≤ 140737488355328 := by omega
  have HB : Hid (n = ks.length ∧ bs.length + 4 + (layV (vts ks)).length ≤ 140737488355328 ∧ (∀ v ∈ vts ks, LimV v) ∧ Own KE wr o c ks ∧ Wt w a bs wr ∧ ∀ x ∈ ks, Own TE wr x.o x.c x.keys) := ⟨hn, hb, hl, ho, h, hky⟩
  clear hn hb hl ho h hle hlv hky
  go_enter Tryz.func148, Tryz.ntmps148
  go_wp2_with fail
  rw [show ((n : Int) % 4294967296) = ((n % 4294967296 : Nat) : Int) by omega]
  refine (HB.out.2.2.2.2.1.u32 (n % 4294967296) (by omega) (by have := HB.out.2.1; omega)).mono ?_
  rintro e w1 ⟨rfl, H1⟩
  rw [num4_mod] at H1
  go_wp2_with fail
  go_loopw [5, 13] (fun _ i wq => ∃ k : Nat, k ≤ n ∧ i = .int .i64 k ∧ Hid (Wt w a (bs ++ num 4 n ++ layV (vts (ks.take k))) wq ∧ Stay wr wq)) (fun _ i _ => n - (intOf i).toNat)
  case atStart => exact ⟨0, by omega, rfl, by simpa [layV, vts] using H1.out.1, H1.out.2⟩
  case round =>
    rename World => wq
    obtain ⟨k, hk, rfl, HW⟩ := hrel
    by_cases hlt : k < n
    · have hks : k < ks.length := by have := HB.out.1; omega
      obtain ⟨b1, off1, e1, d0, d1, d2, d3, d4⟩ := (HB.out.2.2.2.1.stay okK HW.out.2 tagsW.2.2.1 tagsW.2.2.2).sl.atK hks
      obtain ⟨x, hx⟩ : ∃ x, x = ks.getD k kv0 := ⟨_, rfl⟩
      have hin : x ∈ ks := by rw [hx]; exact getD_mem_lt _ hks
      rw [← hx] at d0 d1 d2 d3 d4
      have hlim := HB.out.2.2.1 x.vt (List.mem_map.2 ⟨x, hin, rfl⟩)
      have hkx := HB.out.2.2.2.2.2 x hin
      have e2 := layV_snoc ks k hks
      have e3 := layV_take ks (k + 1)
      rw [← hx] at e2
      rw [e2, List.length_append, layV1_length] at e3
      have HX : Hid (layV (vts (ks.take (k + 1))) = layV (vts (ks.take k)) ++ layV1 x.vt) := e2
      have HL : Hid ((bs ++ num 4 n ++ layV (vts (ks.take k))).length + 20 + x.m.1.size + x.val.size + bodyLen (natss x.keys) ≤ 140737488355328) := (show _ ≤ _ by
        rw [List.length_append, List.length_append, num_length]; have := HB.out.2.1; simp only [KV.vt] at e3; omega)
      obtain ⟨⟨x1, x2⟩, xv, xo, xc, xks, xst⟩ := x
      have HM : Hid (LimV ((x1, x2), xv, xks)) := hlim
      have HK : Hid (Own TE wr xo xc xks) := hkx
      simp only at d0 d1 d2 d3 d4
      obtain ⟨nk, hnk⟩ : ∃ nk, nk = xks.length := ⟨_, rfl⟩
      rw [← hnk] at d3
      have HNK : Hid (nk = xks.length) := hnk
      generalize hX : bs ++ num 4 n ++ layV (vts (ks.take k)) = X at HW HL
      have HX2 : Hid (bs ++ num 4 n ++ layV (vts (ks.take k)) = X) := hX
      have HL' : Hid (X.length + 20 + x1.size + xv.size + bodyLen (natss xks) ≤ 140737488355328) := HL.out
      clear hX hlim hx e2 e3 hks hkx hin hnk HL
      subst e1
      have hW1 := HW.out.1.go ((Keeps.refl no wq).alloc (.cells #[.string x1, .int .u64 ((x2 : Nat) : Int), .string xv, .slice xo nk xc, .int .i64 xst] 114))
      have HT := hW1.text x1 (by have := HL'.out; omega) (by have := HM.out.1; (try simp only at this); omega)
      have HB1 := blk_new wq (.cells #[.string x1, .int .u64 ((x2 : Nat) : Int), .string xv, .slice xo nk xc, .int .i64 xst] 114)
      have HBK : Hid ((wq.alloc (.cells #[.string x1, .int .u64 ((x2 : Nat) : Int), .string xv, .slice xo nk xc, .int .i64 xst] 114)).heap[wq.heap.size]? = some (.cells #[.string x1, .int .u64 ((x2 : Nat) : Int), .string xv, .slice xo nk xc, .int .i64 xst] 114 (0, 0))) := HB1
      clear hW1 HB1
      go_wp2_with fail
      refine HT.mono ?_
      rintro e w2 ⟨rfl, H2⟩
      clear HT
      have HB2 : Hid (w2.heap[wq.heap.size]? = some (.cells #[.string x1, .int .u64 ((x2 : Nat) : Int), .string xv, .slice xo nk xc, .int .i64 xst] 114 (0, 0))) := H2.out.2 _ _ _ _ HBK.out tagsW.2.2.1 tagsW.2.2.2
      have f1 := cell_of_blk HB2.out 1
      simp only [List.getElem?_toArray, List.getElem?_cons_succ, List.getElem?_cons_zero] at f1
      go_wp2_with fail
      refine (H2.out.1.u64 x2 HM.out.2.1 (by have := HL'.out; rw [List.length_append, txt_length, nats_length]; omega)).mono ?_
      rintro e w3 ⟨rfl, H3⟩
      have HB3 : Hid (w3.heap[wq.heap.size]? = some (.cells #[.string x1, .int .u64 ((x2 : Nat) : Int), .string xv, .slice xo nk xc, .int .i64 xst] 114 (0, 0))) := H3.out.2 _ _ _ _ HB2.out tagsW.2.2.1 tagsW.2.2.2
      have f2 := cell_of_blk HB3.out 2
      simp only [List.getElem?_toArray, List.getElem?_cons_succ, List.getElem?_cons_zero] at f2
      clear f1
      go_wp2_with fail
      refine (H3.out.1.text xv (by have := HL'.out; rw [List.length_append, List.length_append, txt_length, nats_length, num_length]; omega) (by have := HM.out.2.2.1; (try simp only at this); omega)).mono ?_
      rintro e w4 ⟨rfl, H4⟩
      have HB4 : Hid (w4.heap[wq.heap.size]? = some (.cells #[.string x1, .int .u64 ((x2 : Nat) : Int), .string xv, .slice xo nk xc, .int .i64 xst] 114 (0, 0))) := H4.out.2 _ _ _ _ HB3.out tagsW.2.2.1 tagsW.2.2.2
      have f3 := cell_of_blk HB4.out 3
      simp only [List.getElem?_toArray, List.getElem?_cons_succ, List.getElem?_cons_zero] at f3
      clear f2
      have HS : Hid (Stay wr w4) := (((HW.out.2.trans (Stay.of_keeps ((Keeps.refl no wq).alloc _))).trans H2.out.2).trans H3.out.2).trans H4.out.2
      have hky := HK.out.stay okT HS.out (by decide) (by decide)
      go_wp2_with fail
      refine (H4.out.1.texts xo nk xc xks HNK.out hky HM.out.2.2.2.2 HM.out.2.2.2.1 (by have := HL'.out; rw [List.length_append, List.length_append, List.length_append, txt_length, txt_length, nats_length, nats_length, num_length]; omega)).mono ?_
      rintro e w5 ⟨rfl, H5⟩
      clear hky f3
      go_wp2_with fail
      go_roundw
      case rel =>
        refine ⟨k + 1, by omega, by go_num, ?_, HS.out.trans H5.out.2⟩
        have := H5.out.1
        rw [HX.out, ← List.append_assoc, HX2.out]
        unfold layV1
        simp only [KV.vt]
        rw [← List.append_assoc, ← List.append_assoc, ← List.append_assoc]
        exact this
      case measure => simp [intOf]; omega
    · go_wp2_with fail
      go_end0
      have e1 : ks.take k = ks := List.take_of_length_le (by have := HB.out.1; omega)
      have := HW.out
      rw [e1, List.append_assoc, HB.out.1] at this
      exact ⟨rfl, this⟩
end Go.Proofs.YtdemoghlibnooaaGreatDoor
namespace Go.Proofs.YtdemoghlibnooaaGreatDoor
open Go.RowKit Go.Maps Go.Sort Orl Pk
set_option linter.unusedVariables false
set_option linter.unusedSimpArgs false
structure Bl (s : St) (g : Nat) (w : World) (bs : List Nat) (o : Option Addr) (n c : Nat) (w' : World) : Prop where
  sn : SnOf s g bs
  n : n = bs.length
  own : Owns w' o c bs
  new : New w o
  keep : Keeps no w w'
  le : bs.length + 100 ≤ 140737488355328
  ge : 25 ≤ bs.length
  byt : ∀ c ∈ bs, c < 256
theorem Kd.tld {s : St} {ks : List KV} {o : Option Addr} {n c : Nat} {w : World} (h : Kd s ks o n c w) {ls : List Mk} {o' : Option Addr} {n' c' : Nat} {w' : World} (k : Ld s ls o' n' c' w') : Tld s ls ks := ⟨h.is, h.all, h.inc, k.is⟩
set_option maxRecDepth 10000 in
theorem build_any {w0 w : World} {p : Nat} {s : St} {N : Nat} {P : Nat → Prop} (h : Ow w0 w p s N P) (hN : N ≤ 2000000) (ht : TabIn w) (g : Nat) (hg : 1 ≤ g) (hg2 : g ≤ 9223372036854775807) :
    Calls Tryz.prog 101 #[.int .i64 ((g : Nat) : Int), .pointer (some ⟨p, 0, none⟩)] w fun e w' => ∃ o n c bs, e = .returned (.tuple #[.slice o n c, .int .i64 0]) ∧ Hid (Bl s g w bs o n c w') := by
  have HO : Hid (Ow w0 w p s N P ∧ N ≤ 2000000 ∧ TabIn w) := ⟨h, hN, ht⟩
  have hok := h.ok
  have HOK : Hid (Ok s) := hok
  have hg' : ¬ ((g : Nat) : Int) < 1 := by omega
  have hg3 : ((g : Nat) : Int) ≤ 9223372036854775807 := by omega
  clear h hN ht hok hg
  go_enter Tryz.func101, Tryz.ntmps101
  go_wp2_with fail
  refine (wt_new w).mono ?_
  rintro e w1 ⟨a, rfl, H1⟩
  go_wp2_with fail
  refine (H1.out.u32 1918987632 (by omega) (by simp)).mono ?_
  rintro e w2 ⟨rfl, H2⟩
  go_wp2_with fail
  refine (H2.out.1.u8 1 (by omega) (by simp [num_length])).mono ?_
  rintro e w3 ⟨rfl, H3⟩
  go_wp2_with fail
  refine (H3.out.1.u64 g (by omega) (by simp [num_length])).mono ?_
  rintro e w4 ⟨rfl, H4⟩
  have H4' : Hid (Wt w a (snHead g) w4) := by
    have := H4.out.1
    simp only [List.nil_append, List.append_assoc] at this
    exact this
  clear H1 H2 H3 H4
  go_wp2_with fail
  refine ((HO.out.1.go H4'.out.keep).lastsK (by have := HO.out.2.1; omega)).mono ?_
  rintro e w5 ⟨lo, ln, lc, ls, rfl, H5⟩
  obtain ⟨hl1, hl2⟩ : Hid (∀ l ∈ ls, LimL l) ∧ Hid (ls.length ≤ 2000000) := by
    refine ⟨fun l hl => ?_, (show _ ≤ _ by have := H5.out.2.2.2; have := HO.out.2.1; omega)⟩
    have h1 := (H5.out.1.is.2 l.1 l.2).1 hl
    have h2 := HOK.out.la l.1 (by rw [h1.1]; exact h1.2)
    refine ⟨?_, by rw [← h1.1]; exact HOK.out.last_lt _⟩
    cases hv : s.V (l.1, s.last l.1) with
    | none => exact absurd hv h2
    | some v => exact (show ((l.1, s.last l.1) : Mk).1.size ≤ 65535 from HOK.out.v.size hv)
  have HLL : Hid ((layL ls).length ≤ 65547 * 2000000) := (show _ ≤ _ by
    have := layL_max ls (fun l hl => (hl1.out l hl).1)
    have := hl2.out
    omega)
  go_wp2_with fail
  refine (layLasts_any (H4'.out.go H5.out.2.2.1) lo ln lc ls H5.out.1.n H5.out.1.own hl1.out (by rw [snHead_length]; have := HLL.out; omega)).mono ?_
  rintro e w6 ⟨rfl, H6⟩
  go_wp2_with fail
  refine ((HO.out.1.go H6.out.1.keep).keptK (by have := HO.out.2.1; omega)).mono ?_
  rintro e w7 ⟨ko, kn, kc, ks, rfl, H7⟩
  have HT : Hid (Tld s ls ks) := H7.out.1.tld H5.out.1
  have HLV : Hid ((∀ v ∈ vts ks, LimV v) ∧ (layV (vts ks)).length ≤ 67243026 * 2000000) := by
    have h1 := (tld_lims HOK.out HT.out).2
    refine ⟨h1, ?_⟩
    have h2 := layV_max (vts ks) h1
    have h3 : (vts ks).length = ks.length := by simp [vts]
    have := H7.out.2.2.2
    have := HO.out.2.1
    omega
  have HX : Hid ((snHead g ++ (num 4 ls.length ++ layL ls)).length = 17 + (layL ls).length) := (show _ = _ by rw [List.length_append, List.length_append, snHead_length, num_length]; omega)
  go_wp2_with fail
  refine (layVersions_any (H6.out.1.go H7.out.2.2.1) ko kn kc ks H7.out.1.n H7.out.1.own H7.out.1.key HLV.out.1 (by rw [HX.out]; have := HLL.out; have := HLV.out.2; omega)).mono ?_
  rintro e w8 ⟨rfl, H8⟩
  have HBd : Hid (Wt w a (snBody g ls (vts ks)) w8) := by
    have := H8.out.1
    rw [List.append_assoc] at this
    unfold snBody
    rw [show (vts ks).length = ks.length by simp [vts]]
    exact this
  have HLe : Hid ((snBody g ls (vts ks)).length = 21 + (layL ls).length + (layV (vts ks)).length) := snBody_length _ _ _
  clear H4' H6 H8
  go_wp2_with fail
  refine HBd.out.out.mono ?_
  rintro e w9 ⟨bo, bn, bc, rfl, H9⟩
  go_wp2_with fail
  refine (sum_any bo bn (snBody g ls (vts ks)) bc H9.out.1 w9 (HO.out.2.2.keepsN (HBd.out.keep.trans H9.out.2.2.2)) (H9.out.2.1.row (snBody_lt _ _ _) (by rw [HLe.out]; have := HLL.out; have := HLV.out.2; omega))).mono ?_
  rintro e w10 ⟨rfl, hw10⟩
  subst w10
  go_wp2_with fail
  refine ((HBd.out.go H9.out.2.2.2).u32 (Crc.sum (snBody g ls (vts ks))) (snSum_lt _ _ _) (by rw [HLe.out]; have := HLL.out; have := HLV.out.2; omega)).mono ?_
  rintro e w11 ⟨rfl, H11⟩
  go_wp2_with fail
  refine H11.out.1.out.mono ?_
  rintro e w12 ⟨fo, fn, fc, rfl, H12⟩
  go_wp2_with fail
  go_ret2
  have hlen := snap_length g ls (vts ks)
  have := HLe.out
  have := HLL.out
  have := HLV.out.2
  refine ⟨fo, fn, fc, snap g ls (vts ks), rfl, ⟨ls, ks, HT.out, rfl⟩, H12.out.1, H12.out.2.1, H12.out.2.2.1.of_le H11.out.1.keep.size, H11.out.1.keep.trans H12.out.2.2.2, by omega, by omega, snap_lt _ _ _⟩
end Go.Proofs.YtdemoghlibnooaaGreatDoor
