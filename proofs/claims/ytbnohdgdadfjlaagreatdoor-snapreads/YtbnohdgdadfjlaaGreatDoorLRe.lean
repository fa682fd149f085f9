import Derived.Test.YtbnohdgdadfjlaaGreatDoorDE
import Derived.Test.YtbnohdgdadfjlaaGreatDoorNJ
/- SnapReads: its walk. -/
namespace Go.Proofs.YtbnohdgdadfjlaaGreatDoor
open Go.RowKit Go.Sort Orl Pk Go.Maps
set_option linter.unusedVariables false
set_option linter.unusedSimpArgs false

theorem Rm.keptD {w0 w : World} {p : Nat} {s : St} {N : Nat} (h : Rm w0 p s N w) : Calls Tryz.prog 65 #[.pointer (some ⟨p, 0, none⟩)] w fun e w' => ∃ o n c ks, e = .returned (.slice o n c) ∧ Hid (Kd s ks o n c w' ∧ Keeps no w w') := by
  obtain ⟨oK, nK, cK, oL, nL, cL, ks, ls, h1, h2, h3, h4, h5⟩ := h
  refine (rKept_any w p oK nK cK oL nL cL ks ls h1.rd ⟨fun x hx => ⟨(h1.key x hx).sl, ?_⟩⟩).mono ?_
  · have := h4.v.len (h2.is x hx)
    simp only at this
    omega
  rintro e w' ⟨o, n, c, rfl, H⟩
  obtain ⟨ks', hn, hkl, heq⟩ := H.out
  have hr : Rl s ks' ls := rl_key ⟨h2.is, h2.all, h2.inc, h2.la⟩ (key_of_eq heq)
  exact ⟨o, n, c, ks', rfl, ⟨hn, hkl.own, fun x hx => (hkl.key x hx).1, hr.is, hr.all, hr.inc, h4, by rw [← heq.1]; exact h1.lk⟩, hkl.keep⟩
theorem Rm.lastsD {w0 w : World} {p : Nat} {s : St} {N : Nat} (h : Rm w0 p s N w) : Calls Tryz.prog 63 #[.pointer (some ⟨p, 0, none⟩)] w fun e w' => ∃ o n c ls, e = .returned (.slice o n c) ∧ Hid (Ld s ls o n c w' ∧ Keeps no w w') := by
  obtain ⟨oK, nK, cK, oL, nL, cL, ks, ls, h1, h2, h3, h4, h5⟩ := h
  refine (rLasts_any w p oK nK cK oL nL cL ks ls h1.rd).mono ?_
  rintro e w' ⟨o, n, c, rfl, H⟩
  exact ⟨o, n, c, ls, rfl, ⟨H.out.1, H.out.2.1, h2.la, h4, h1.ll⟩, H.out.2.2.2⟩
theorem rd_keep {w : World} {b : List Nat} {now : Int} {e : Ending} {w' : World} (h : RdTo w b now e w') : Keeps no w w' := by
  rcases h with ⟨_, _, h⟩ | ⟨_, _, _, h⟩ | ⟨_, _, _, _, h⟩ | ⟨_, _, _, p, _, h⟩
  · exact h
  · exact h
  · exact h
  · exact h.keep
/-- both sides at once -/
def Both (now : Int) (b : List Nat) (w1 w2 : World) (e f : Ending) (v2 v3 : World) : Prop :=
  (∃ E : Int, (E = 1 ∨ E = 90 ∨ E = 2) ∧ e = .returned (.tuple #[.int .i64 0, .pointer none, .int .i64 E]) ∧ f = .returned (.tuple #[.int .i64 0, .pointer none, .int .i64 E]) ∧ Hid (Keeps no w1 v2 ∧ Keeps no w2 v3)) ∨
  (∃ (G p q : Nat) (s : St) (N : Nat), e = .returned (.tuple #[.int .i64 ((G : Nat) : Int), .pointer (some ⟨p, 0, none⟩), .int .i64 0]) ∧ f = .returned (.tuple #[.int .i64 ((G : Nat) : Int), .pointer (some ⟨q, 0, none⟩), .int .i64 0]) ∧ Hid (Ow w1 v2 p s N no ∧ N < 4294967296 ∧ Rm w2 q s 4294967296 v3))
theorem both {now : Int} {b : List Nat} (hb : ∀ c ∈ b, c < 256) {w1 w2 v2 v3 : World} {e f : Ending} (h : RdTo w1 b now e v2) (k : DTo w2 b now f v3) : Both now b w1 w2 e f v2 v3 := by
  rcases h with ⟨t, rfl, h1⟩ | ⟨t, s, rfl, h1⟩ | ⟨t, s, r, rfl, h1⟩ | ⟨t, s, r, p, rfl, h1⟩
  · rcases k with ⟨t', rfl, k1⟩ | ⟨t', _⟩ | ⟨t', _⟩ | ⟨t', _⟩
    · exact .inl ⟨1, .inl rfl, rfl, rfl, h1, k1⟩
    all_goals (rw [t] at t'; cases t')
  · rcases k with ⟨t', _⟩ | ⟨t', s', rfl, k1⟩ | ⟨t', s', _⟩ | ⟨t', s', _⟩
    · rw [t] at t'; cases t'
    · exact .inl ⟨90, .inr (.inl rfl), rfl, rfl, h1, k1⟩
    all_goals (rw [s] at s'; cases s')
  · rcases k with ⟨t', _⟩ | ⟨t', s', _⟩ | ⟨t', s', r', rfl, k1⟩ | ⟨t', s', r', q, rfl, l1, l2, l3, k1⟩
    · rw [t] at t'; cases t'
    · rw [s] at s'; cases s'
    · exact .inl ⟨2, .inr (.inr rfl), rfl, rfl, h1, k1⟩
    · have := (doc_prog r' l3 l1 l2).2.1
      rw [r] at this; cases this
  · have hc := rd_counts (bodyO_byt hb)
    obtain ⟨d, hg, hl, hv⟩ := prog_doc hb s r h1.ok hc.1 hc.2
    rcases k with ⟨t', _⟩ | ⟨t', s', _⟩ | ⟨t', s', r', rfl, k1⟩ | ⟨t', s', r', q, rfl, l1, l2, l3, k1⟩
    · rw [t] at t'; cases t'
    · rw [s] at s'; cases s'
    · exact absurd d r'
    · refine .inr ⟨(d2 (bodyO b)).1, p, q, rdS now b, (rdVs (bodyO b)).1.length, by rw [hg], rfl, h1, hc.2, ?_⟩
      have e : rdS now b = loadS (stk now (dLs (bodyO b)).1 (dVs (bodyO b)).1) (dLs (bodyO b)).1 := by
        unfold rdS rdKs
        rw [hl, hv]
      rw [e]
      exact k1
set_option maxRecDepth 10000 in
set_option maxHeartbeats 4000000 in
theorem rds_any (w : World) (a : Option Addr) (n c : Nat) (bs : List Nat) (now : Int) (hn : n = bs.length) (hs : BSl w a c bs) (hb : bs.length ≤ 140737488351236) (ht : TabIn w) :
    Calls Tryz.prog 25 #[.slice a n c, .int .i64 now] w fun e w' => e = .returned (.bool true) ∧ Keeps no w w' := by
  have HS : Hid (n = bs.length ∧ BSl w a c bs ∧ bs.length ≤ 140737488351236 ∧ TabIn w) := ⟨hn, hs, hb, ht⟩
  clear hn hs hb ht
  go_enter Tryz.func25, Tryz.ntmps25
  go_wp2_with fail
  refine (own_any w a n c bs HS.out.1 (by have := HS.out.2.2.1; omega) HS.out.2.1).mono ?_
  rintro e w1 ⟨o1, n1, c1, rfl, H1⟩
  go_wp2_with fail
  refine (read_any w1 o1 n1 c1 bs now H1.out.1 (BSl.of H1.out.2.1 HS.out.2.1.row.1 (by have := HS.out.2.2.1; omega)) (by have := HS.out.2.2.1; omega) (HS.out.2.2.2.keepsN H1.out.2.2.2)).mono ?_
  intro e2 w2 h2
  have HR2 : Hid (RdTo w1 bs now e2 w2) := h2
  have HK2 : Hid (Keeps no w w2) := H1.out.2.2.2.trans (rd_keep h2)
  have HF : Hid (Calls Tryz.prog 72 #[.slice a n c, .int .i64 now] w2 fun e w' => DTo w2 bs now e w') := dRead_any w2 a n c bs now HS.out.1 (HS.out.2.1.keepsN HK2.out) HS.out.2.2.1
  have he2 : (∃ E : Int, e2 = .returned (.tuple #[.int .i64 0, .pointer none, .int .i64 E])) ∨ ∃ (G p : Nat), e2 = .returned (.tuple #[.int .i64 ((G : Nat) : Int), .pointer (some ⟨p, 0, none⟩), .int .i64 0]) := by
    rcases h2 with ⟨_, rfl, _⟩ | ⟨_, _, rfl, _⟩ | ⟨_, _, _, rfl, _⟩ | ⟨_, _, _, p, rfl, _⟩
    · exact .inl ⟨_, rfl⟩
    · exact .inl ⟨_, rfl⟩
    · exact .inl ⟨_, rfl⟩
    · exact .inr ⟨_, p, rfl⟩
  clear h2
  rcases he2 with ⟨E, rfl⟩ | ⟨G, p, rfl⟩
  · go_wp2_with fail
    refine HF.out.mono ?_
    intro f w3 h3
    rcases both HS.out.2.1.row.1 HR2.out h3 with ⟨E', hE, he, rfl, HK⟩ | ⟨G, p, q, s, N, he, _⟩
    · injection he with he
      injection he with he
      simp only [Array.mk.injEq, List.cons.injEq, Value.int.injEq, true_and, and_true] at he
      subst he
      clear HF HR2 h3
      go_wp2_with fail
      go_ret
      exact ⟨rfl, HK2.out.trans HK.out.2⟩
    · simp at he
  · go_wp2_with fail
    refine HF.out.mono ?_
    intro f w3 h3
    rcases both HS.out.2.1.row.1 HR2.out h3 with ⟨E', hE, he, _⟩ | ⟨G', p', q, s, N, he, rfl, HB⟩
    · simp at he
    · simp only [Ending.returned.injEq, Value.tuple.injEq, Array.mk.injEq, List.cons.injEq, Value.int.injEq, Value.pointer.injEq, Option.some.injEq, Addr.mk.injEq, true_and, and_true] at he
      obtain ⟨hG, hp⟩ := he
      have hG' : G' = G := by omega
      rw [hG']
      have HK3 : Hid (Keeps no w2 w3) := HB.out.2.2.keep
      have HOw : Hid (Ow w1 w3 p s N no ∧ N ≤ 1954687338211) := ⟨by rw [hp]; exact HB.out.1.go HK3.out, by have := HB.out.2.1; omega⟩
      clear HF HR2 h3 hG hG' hp
      go_wp2_with fail
      refine (HOw.out.1.keptK HOw.out.2).mono ?_
      rintro e w4 ⟨ko, kn, kc, ks, rfl, H4⟩
      go_wp2_with fail
      refine (HB.out.2.2.go H4.out.2.2.1).keptD.mono ?_
      rintro e w5 ⟨do_, dn, dc, ds, rfl, H5⟩
      go_wp2_with fail
      refine (sameKd true (Sim.refl s) (fun _ _ => rfl) (H4.out.1.keepsN H5.out.2) H5.out.1).mono ?_
      rintro e w6 ⟨rfl, hk6⟩
      have HK6 : Hid (Keeps no w3 w6) := (H4.out.2.2.1.trans H5.out.2).trans hk6
      clear hk6 H4 H5
      go_wp2_with fail
      refine ((HOw.out.1.go HK6.out).lastsK HOw.out.2).mono ?_
      rintro e w7 ⟨lo, ln, lc, ls, rfl, H7⟩
      go_wp2_with fail
      refine ((HB.out.2.2.go HK6.out).go H7.out.2.2.1).lastsD.mono ?_
      rintro e w8 ⟨eo, en, ec, es, rfl, H8⟩
      go_wp2_with fail
      refine (sameLd (fun _ => rfl) (H7.out.1.keepsN H8.out.2) H8.out.1).mono ?_
      rintro e w9 ⟨rfl, hk9⟩
      have HK9 : Hid (Keeps no w w9) := ((((HK2.out.trans HK3.out).trans HK6.out).trans H7.out.2.2.1).trans H8.out.2).trans hk9
      clear hk9
      go_wp2_with fail
      go_ret
      exact ⟨rfl, HK9.out⟩
set_option maxRecDepth 10000 in
set_option maxHeartbeats 4000000 in
theorem reads_any (w : World) (a : Option Addr) (n c : Nat) (bs : List Nat) (hn : n = bs.length) (hs : BSl w a c bs) (hb : bs.length + 4 ≤ 140737488351236) (now : Int) (ht : TabIn w) :
    Calls Tryz.prog 7 #[.slice a n c, .int .i64 now] w fun e w' => e = .returned (.bool true) ∧ Keeps no w w' := by
  have HS : Hid (n = bs.length ∧ BSl w a c bs ∧ bs.length + 4 ≤ 140737488351236 ∧ TabIn w) := ⟨hn, hs, hb, ht⟩
  have hnb : (n : Int) ≤ 140737488351232 := by omega
  clear hn hs hb ht
  go_enter Tryz.func7, Tryz.ntmps7
  go_wp2_with fail
  refine (alive_any w HS.out.2.2.2).mono ?_
  rintro e w1 ⟨rfl, hk1⟩
  have HK1 : Hid (Keeps no w w1) := hk1
  clear hk1
  go_wp2_with fail
  refine (own_any w1 a n c bs HS.out.1 (by have := HS.out.2.2.1; omega) (HS.out.2.1.keepsN HK1.out)).mono ?_
  rintro e w2 ⟨o2, n2, c2, rfl, H2⟩
  have HK2 : Hid (Keeps no w w2) := HK1.out.trans H2.out.2.2.2
  go_wp2_with fail
  refine (sum_any o2 n2 bs c2 H2.out.1 w2 (HS.out.2.2.2.keepsN HK2.out) (H2.out.2.1.row HS.out.2.1.row.1 (by have := HS.out.2.2.1; omega))).mono ?_
  rintro e w3 ⟨rfl, hw3⟩
  subst w3
  clear H2
  obtain ⟨v, hv⟩ : ∃ v, v = Crc.sum bs := ⟨_, rfl⟩
  have hvl : v < 4294967296 := by rw [hv]; exact Crc.update_lt 0 _ (by decide) HS.out.2.1.row.1
  have HV : Hid (v < 4294967296) := hvl
  have hv2 : (v : Int) < 4294967296 := by omega
  rw [← hv]
  clear hv hvl
  go_wp2_with fail
  refine (own_any w2 a n c bs HS.out.1 (by have := HS.out.2.2.1; omega) (HS.out.2.1.keepsN HK2.out)).mono ?_
  rintro e w4 ⟨o4, n4, c4, rfl, H4⟩
  have hn4 : (n4 : Int) ≤ 140737488351232 := by have := H4.out.1; have := HS.out; omega
  have HK4 : Hid (Keeps no w w4) := HK2.out.trans H4.out.2.2.2
  have hrow := row_lit w4 (num 4 v) (num_lt 4 v) (by rw [num_length]; omega)
  have e4 : (vals (num 4 v)).toArray = #[.int .u8 ((v : Int) / 16777216), .int .u8 ((v : Int) / 65536 % 256), .int .u8 ((v : Int) / 256 % 256), .int .u8 ((v : Int) % 256)] := by
    rw [num4 v HV.out]; simp [vals]
  rw [e4] at hrow
  have HROW := (show Hid _ from hrow)
  clear e4 hrow
  go_wp2_with (at_builtin; go_must (refine wpList_appB rfl _ _ rfl o4 n4 c4 bs (by rfl) H4.out.1 (H4.out.2.1.keepsN ((Keeps.refl no w4).alloc _)) (some ⟨w4.heap.size, 0, none⟩) 4 4 (num 4 v) (by rfl) (num_length 4 v).symm (by simp) HROW.out (by omega) ?_); intro o5 c5 w5 ho5 hfr5 hk5)
  have HN5 := hfr5.new hk5 (w0 := w) (fun b hb => by have := H4.out.2.2.1 b hb; have := HK2.out.size; omega) (HK4.out.alloc _)
  have H5 : Hid (Owns w5 o5 c5 (bs ++ num 4 v) ∧ New w o5 ∧ Keeps no w w5 ∧ n4 = bs.length) := ⟨ho5, HN5.1, HN5.2, H4.out.1⟩
  clear ho5 hfr5 hk5 HN5 H4 HROW
  refine (rds_any w5 a n c bs now HS.out.1 (HS.out.2.1.keepsN H5.out.2.2.1) (by have := HS.out.2.2.1; omega) (HS.out.2.2.2.keepsN H5.out.2.2.1)).mono ?_
  rintro e w6 ⟨rfl, hk6⟩
  have HK6 : Hid (Keeps no w5 w6) := hk6
  clear hk6
  go_wp2_with fail
  refine (rds_any w6 o5 (n4 + 4) c5 (bs ++ num 4 v) now (by rw [H5.out.2.2.2]; simp [num_length]) (BSl.of (H5.out.1.keepsN HK6.out) (fun x hx => by rcases List.mem_append.1 hx with h | h; exact HS.out.2.1.row.1 x h; exact num_lt 4 v x h) (by have := HS.out.2.2.1; simp [num_length]; omega)) (by have := HS.out.2.2.1; simp [num_length]; omega) (HS.out.2.2.2.keepsN (H5.out.2.2.1.trans HK6.out))).mono ?_
  rintro e w7 ⟨rfl, hk7⟩
  have HK7 : Hid (Keeps no w w7) := (H5.out.2.2.1.trans HK6.out).trans hk7
  clear hk7
  go_wp2_with fail
  go_ret
  exact ⟨rfl, HK7.out⟩
end Go.Proofs.YtbnohdgdadfjlaaGreatDoor
