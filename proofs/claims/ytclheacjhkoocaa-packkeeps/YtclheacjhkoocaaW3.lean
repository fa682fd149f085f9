import Derived.Test.YtclheacjhkoocaaSm
namespace Go.Proofs.Ytclheacjhkoocaa
open Go.RowKit
open Pk
set_option linter.unusedVariables false
set_option linter.unusedSimpArgs false

theorem RowS.keeps2 {S : Nat → Prop} {w w' : World} {a : Option Addr} {ss : List ByteArray} (h : RowS w a ss) (hk : Keeps S w w') (ha : ss ≠ [] → ∀ x, a = some x → ¬ S x.block) : RowS w' a ss := by
  by_cases h0 : ss = []
  · exact .inl h0
  · exact h.keeps hk (ha h0)

set_option maxRecDepth 10000 in
set_option maxHeartbeats 400000 in
theorem wTexts2_any (w : World) (a : Nat) (o : Option Addr) (c L : Nat) (bs : List Nat) (e0 : Nat) (ol : Option Addr) (n cl : Nat) (ss : List ByteArray) (hn : n = ss.length) (hrow : RowS w ol ss) (hs : ∀ s ∈ ss, s.size ≤ 140737488351232) (hln : ss.length ≤ 140737488351232)
    (hap : ss ≠ [] → ∀ x, ol = some x → ¬ footW a o x.block) (hM : 4 + bodyLen (natss ss) ≤ 4611686018427387904 ∨ L ≤ 4611686018427387904) (h : IsW 65 w a o c L bs e0) (hlid : (lay L (bs, e0) (txts (natss ss))).1.length ≤ 140737488355328) :
    Calls Try.prog 44 #[.pointer (some ⟨a, 0, none⟩), .slice ol n cl] w fun e w' => e = .returned (.tuple #[]) ∧ WStep 65 w a o L (lay L (bs, e0) (txts (natss ss))) w' := by
  have HLID : Hid ((lay L (bs, e0) (txts (natss ss))).1.length ≤ 140737488355328) := hlid
  have HLEN : Hid ((txts (natss ss)).length = 4 + bodyLen (natss ss)) := txts_length _
  have HM : Hid (4 + bodyLen (natss ss) ≤ 4611686018427387904 ∨ L - bs.length ≤ 4611686018427387904) := by
    rcases hM with h | h
    · exact .inl h
    · exact .inr (by omega)
  have HN : Hid (n = ss.length) := hn
  have HNN : n ≤ 140737488351232 := by omega
  clear hlid hM hn
  have hlim := h.lim
  have hfit0 := h.fit
  go_enter Try.func44, Try.ntmps44
  go_wp2_with fail
  refine (room_any w a o c L bs e0 h).mono ?_
  rintro e w1 ⟨rfl, m1, rfl⟩
  go_wp2_with fail
  refine (textsSize_any (w.drewN m1) ol n cl ss (L - bs.length) HN.out (hrow.keeps (keeps_drewN (fun _ => False) w m1) (fun _ _ h => h)) hs hln (by omega) HM.out).mono ?_
  rintro e w1 ⟨z, rfl, hz, HZ, rfl⟩
  have h1 : IsW 65 (w.drewN m1) a o c L bs e0 := h.keeps (keeps_drewN (fun _ => False) w m1) (fun _ _ h => h)
  go_wp2_with fail
  refine (claims_any (w.drewN m1) a o c L bs e0 z (by omega) (by omega) h1).mono ?_
  rintro e w1 (⟨rfl, hfit, rfl, m, rfl⟩ | ⟨rfl, hlong, rfl, hW, hk⟩ | ⟨he, rfl, rfl⟩)
  · have hh : IsW 65 (w.drewN (m1 + m)) a o c L bs 0 := h.keeps (keeps_drewN (fun _ => False) _ _) (fun _ _ h => h)
    have hfit' : Hid (bs.length + (txts (natss ss)).length ≤ L) := by
      have := HZ.out
      show _ ≤ _; rw [HLEN.out]; omega
    have hb : Hid (bs.length + (txts (natss ss)).length ≤ 140737488355328) := lay_lid HLID.out rfl hfit'.out
    have c1 : w.cell? ⟨a, 1, none⟩ = some (.slice o bs.length c) := cell_of_blk h.blk 1
    have HK : Hid (Keeps (footW a o) w (w.drewN (m1 + m))) := keeps_drewN _ _ _
    have hb4 : bs.length + 4 ≤ 140737488355328 := by have := hb.out; rw [HLEN.out] at this; omega
    have hb5 : bs.length + 4 ≤ L := by have := hfit'.out; rw [HLEN.out] at this; omega
    go_wp2_with fail
    have HN' := HN.out
    rw [show ((n : Int) % 4294967296) = ((n % 4294967296 : Nat) : Int) by omega]
    refine (appendU32_any (w.drewN (m1 + m)) o _ c bs (n % 4294967296) (by omega) rfl hh.row (by omega)).mono ?_
    rintro e w1 ⟨o1, c1', n1, rfl, hn1, hown1, hfr1, hk1⟩
    rw [num4_mod] at hown1 hn1
    clear HN'
    have f1 : w1.frozen? ⟨a, 1, none⟩ = false := frozen_of_blk (hk1.at hh.blk hh.ap) 1
    obtain ⟨v1, c1⟩ : ∃ v, w1.cell? ⟨a, 1, none⟩ = some v := ⟨_, cell_of_blk (hk1.at hh.blk hh.ap) 1⟩
    have hl4 : (bs ++ num 4 n).length = bs.length + 4 := by rw [List.length_append, num_length]
    obtain ⟨hW, hK⟩ := hh.put hk1 hown1 hfr1 (by rw [hl4]; exact hb5) (app_lt h.byt (num_lt 4 n)) (by rw [hl4]; exact hb4) n1 hn1.out
    have HK2 : Hid (Keeps (footW a o) w (w1.setCell ⟨a, 1, none⟩ (.slice o1 n1 c1'))) := HK.out.trans hK
    have HF : Hid (Fresh w o o1) := hfr1
    clear hl4 hk1 hown1 hfr1 hK hh h1
    go_wp2_with fail
    go_loopw [26] (fun i wr => ∃ k : Nat, ∃ oo cc, k ≤ n ∧ i = .int .i64 k ∧ IsW 65 wr a oo cc L (bs ++ num 4 n ++ txtsBody (natss (ss.take k))) 0 ∧ Fresh w o oo ∧ Keeps (footW a o) w wr) (fun i _ => n - (intOf i).toNat)
    case atStart => exact ⟨0, o1, c1', by omega, rfl, by simpa [natss, txtsBody] using hW, HF.out, HK2.out⟩
    case round =>
      obtain ⟨k, oo, cc, hk, rfl, hWr, hFr, hKr⟩ := hrel
      by_cases h2 : k < n
      · have hks : k < ss.length := by have := HN.out; omega
        have hrr : RowS wr ol ss := hrow.keeps2 hKr hap
        rcases hrr with h0 | ⟨b, off, rfl, hc⟩
        · rw [h0] at hks; simp at hks
        obtain ⟨s, hss⟩ : ∃ s, s = ss.getD k ⟨#[]⟩ := ⟨_, rfl⟩
        have hck := hc k hks
        have hsz := getD_size ss hs k hks
        have hbs := txtsBody_snoc ss k hks
        have hlens := body_snoc ss k hks
        rw [← hss] at hck hsz hbs hlens
        have HBS : Hid (txtsBody (natss (ss.take (k + 1))) = txtsBody (natss (ss.take k)) ++ txt (nats s)) := hbs
        have hbl := body_le ss (k + 1)
        have hX1 : (bs ++ num 4 n ++ txtsBody (natss (ss.take k))).length = bs.length + 4 + bodyLen (natss (ss.take k)) := by rw [List.length_append, List.length_append, num_length, txtsBody_length]
        have hbL : bs.length + 4 + bodyLen (natss ss) ≤ L := by have := hfit'.out; rw [HLEN.out] at this; omega
        have hbB : bs.length + 4 + bodyLen (natss ss) ≤ 140737488355328 := by have := hb.out; rw [HLEN.out] at this; omega
        obtain ⟨X, hX⟩ : ∃ X, X = bs ++ num 4 n ++ txtsBody (natss (ss.take k)) := ⟨_, rfl⟩
        rw [← hX] at hWr hX1
        have HX : Hid (X = bs ++ num 4 n ++ txtsBody (natss (ss.take k))) := hX
        have HB1 : Hid (X.length + 4 + s.size ≤ L) := by show _ ≤ _; omega
        have HB2 : Hid (X.length + 4 + s.size ≤ 140737488355328) := by show _ ≤ _; omega
        clear hss hbs hlens hbl hX1 hX hbL hbB hc
        have c1 : wr.cell? ⟨a, 1, none⟩ = some (.slice oo X.length cc) := cell_of_blk hWr.blk 1
        go_wp2_with fail
        refine (appendText_any wr oo _ cc X s rfl hWr.row HB2.out).mono ?_
        rintro e w2 ⟨o2, c2', n2, rfl, hn2, hown2, hfr2, hk2⟩
        have f1 : w2.frozen? ⟨a, 1, none⟩ = false := frozen_of_blk (hk2.at hWr.blk hWr.ap) 1
        obtain ⟨v1, c1⟩ : ∃ v, w2.cell? ⟨a, 1, none⟩ = some v := ⟨_, cell_of_blk (hk2.at hWr.blk hWr.ap) 1⟩
        have hl4 : (X ++ txt (nats s)).length = X.length + 4 + s.size := by rw [List.length_append, txt_length, nats_length]; omega
        obtain ⟨hW2, hK2⟩ := hWr.put hk2 hown2 hfr2 (by rw [hl4]; exact HB1.out) (app_lt hWr.byt (txt_lt s)) (by rw [hl4]; exact HB2.out) n2 hn2.out
        clear hl4
        go_wp2_with fail
        go_roundw
        case rel =>
          refine ⟨k + 1, o2, c2', by omega, by go_num, ?_, hFr.trans hfr2 hKr.size, hKr.then hK2 ?_⟩
          · rw [HBS.out, ← List.append_assoc, ← HX.out]; exact hW2
          · rintro i (rfl | hi)
            · exact .inl (.inl rfl)
            · rcases hFr.in i hi with h' | h'
              · exact .inl (.inr h')
              · exact .inr h'
        case measure => simp [intOf]; omega
      · go_wp2_with fail
        go_end0
        obtain rfl : k = n := by omega
        rw [lay_fits _ _ _ hfit'.out]
        have e2 := HN.out
        rw [e2, List.take_length] at hWr
        refine ⟨rfl, oo, cc, ?_, hFr, hKr⟩
        show IsW 65 wr a oo cc L (bs ++ txts (natss ss)) 0
        rw [txts, natss_length, ← List.append_assoc]
        exact hWr
  · go_wp2
    refine bodyPost_ret (results_none rfl _ _ _) rfl ?_
    rw [lay_long _ _ _ (by have := HZ.out; rw [HLEN.out]; omega)]
    exact ⟨rfl, o, c, hW, .inl rfl, (keeps_drewN _ _ _).trans (hk.mono (fun i hi => .inl hi))⟩
  · go_wp2
    refine bodyPost_ret (results_none rfl _ _ _) rfl ?_
    rw [lay_err _ _ _ _ he]
    exact ⟨rfl, o, c, h1, .inl rfl, keeps_drewN _ _ _⟩
end Go.Proofs.Ytclheacjhkoocaa
