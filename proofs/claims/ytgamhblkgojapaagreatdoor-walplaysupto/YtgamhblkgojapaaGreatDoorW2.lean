import Derived.Test.YtgamhblkgojapaaGreatDoorW1
namespace Go.Proofs.YtgamhblkgojapaaGreatDoor
open Go.RowKit
open Pk
set_option linter.unusedVariables false
set_option linter.unusedSimpArgs false

/-- what a slice of strings shows -/
def RowS (w : World) (a : Option Addr) (ss : List ByteArray) : Prop :=
  ss = [] ∨ ∃ b off, a = some ⟨b, off, none⟩ ∧ ∀ j, j < ss.length → w.cell? ⟨b, off + j, none⟩ = some (.string (ss.getD j ⟨#[]⟩))
theorem RowS.keeps {S : Nat → Prop} {w w' : World} {a : Option Addr} {ss : List ByteArray} (h : RowS w a ss) (hk : Keeps S w w') (ha : ∀ x, a = some x → ¬ S x.block) : RowS w' a ss := by
  rcases h with h | ⟨b, off, rfl, hc⟩
  · exact .inl h
  · exact .inr ⟨b, off, rfl, fun j hj => hk.cell (hc j hj) (by have := ha ⟨b, off, none⟩ rfl; exact this)⟩

def natss (ss : List ByteArray) : List (List Nat) := ss.map nats
theorem natss_snoc (ss : List ByteArray) (k : Nat) (hk : k < ss.length) : natss (ss.take (k + 1)) = natss (ss.take k) ++ [nats (ss.getD k ⟨#[]⟩)] := by
  rw [List.take_succ_eq_append_getElem hk]
  unfold natss
  rw [List.map_append]
  simp [hk]
theorem body_snoc (ss : List ByteArray) (k : Nat) (hk : k < ss.length) : bodyLen (natss (ss.take (k + 1))) = bodyLen (natss (ss.take k)) + (4 + (ss.getD k ⟨#[]⟩).size) := by
  rw [natss_snoc ss k hk, bodyLen_append]
  simp [bodyLen, nats_length]
theorem body_le (ss : List ByteArray) (k : Nat) : bodyLen (natss (ss.take k)) ≤ bodyLen (natss ss) := by
  have : natss ss = natss (ss.take k) ++ natss (ss.drop k) := by unfold natss; rw [← List.map_append, List.take_append_drop]
  rw [this, bodyLen_append]; omega
theorem getD_size (ss : List ByteArray) (hs : ∀ s ∈ ss, s.size ≤ 140737488351232) (k : Nat) (h : k < ss.length) : (ss.getD k ⟨#[]⟩).size ≤ 140737488351232 := by
  rw [List.getD_eq_getElem?_getD, List.getElem?_eq_getElem h]
  exact hs _ (List.getElem_mem h)

set_option maxRecDepth 10000 in
theorem textsSize_any (w : World) (o : Option Addr) (n c : Nat) (ss : List ByteArray) (r : Nat) (hn : n = ss.length) (hrow : RowS w o ss) (hs : ∀ s ∈ ss, s.size ≤ 140737488351232) (hlen : ss.length ≤ 140737488351232)
    (hr : r ≤ 9223372036854775807) (hM : 4 + bodyLen (natss ss) ≤ 4611686018427387904 ∨ r ≤ 4611686018427387904) :
    Calls Tryz.prog 104 #[.slice o n c, .int .i64 (r : Nat)] w fun e w' => ∃ z : Nat, e = .returned (.int .i64 (z : Nat)) ∧ z ≤ 9223372036854775807 ∧ Hid ((4 + bodyLen (natss ss) ≤ r → z = 4 + bodyLen (natss ss)) ∧ (r < 4 + bodyLen (natss ss) → r < z)) ∧ w' = w := by
  have HN : Hid (n = ss.length) := hn
  have HM : Hid (4 + bodyLen (natss ss) ≤ 4611686018427387904 ∨ r ≤ 4611686018427387904) := hM
  have HROW : Hid (RowS w o ss) := hrow
  have hln : n ≤ 140737488351232 := by omega
  clear hn hM hrow
  go_enter Tryz.func104, Tryz.ntmps104
  go_wp2_with fail
  go_loop [5, 10] (fun z i => ∃ k y : Nat, k ≤ n ∧ i = .int .i64 k ∧ z = .int .i64 (y : Nat) ∧ y = 4 + bodyLen (natss (ss.take k)) ∧ y ≤ 4611686018427387904 + 140737488355328) (fun _ i => n - (intOf i).toNat)
  case atStart => exact ⟨0, 4, by omega, rfl, rfl, by simp [natss, bodyLen], by omega⟩
  case round =>
    obtain ⟨k, y, hk, rfl, rfl, hy, hy2⟩ := hrel
    have HY : Hid (y = 4 + bodyLen (natss (ss.take k))) := hy
    clear hy
    by_cases h2 : k < n
    · have hks : k < ss.length := by have := HN.out; omega
      rcases HROW.out with h0 | ⟨b, off, rfl, hc⟩
      · rw [h0] at hks; simp at hks
      obtain ⟨s, hss⟩ : ∃ s, s = ss.getD k ⟨#[]⟩ := ⟨_, rfl⟩
      have hck := hc k hks
      have hsz := getD_size ss hs k hks
      rw [← hss] at hck hsz
      have HS : Hid (s = ss.getD k ⟨#[]⟩) := hss
      clear hss hc
      by_cases h3 : r < y
      · go_wp2
        go_ret
        refine ⟨y, rfl, by omega, ⟨fun h => ?_, fun _ => h3⟩, rfl⟩
        have := body_le ss k
        have := HY.out
        omega
      · go_wp2
        go_round
        case rel =>
          have e1 := body_snoc ss k hks
          have := HY.out
          have := body_le ss (k + 1)
          refine ⟨k + 1, y + (4 + s.size), by omega, by go_num, by go_num, by rw [e1, ← HS.out]; omega, ?_⟩
          rw [← HS.out] at e1
          rcases HM.out with h | h <;> omega
        case measure => simp [intOf]; omega
    · go_wp2
      go_ret
      obtain rfl : k = n := by omega
      have e1 := HY.out
      have e2 := HN.out
      rw [e2, List.take_length] at e1
      exact ⟨y, rfl, by omega, ⟨fun _ => e1, fun h => by omega⟩, rfl⟩

/-- what Out tells: none and the error; or the bytes, in new memory -/
def OutTo (w : World) (bs : List Nat) (e0 : Nat) (e : Ending) (w' : World) : Prop :=
  Keeps (fun _ => False) w w' ∧ ((e0 ≠ 0 ∧ e = .returned (.tuple #[.slice none 0 0, .int .i64 (e0 : Nat)])) ∨
    (e0 = 0 ∧ ∃ o' c', e = .returned (.tuple #[.slice o' bs.length c', .int .i64 0]) ∧ Owns w' o' c' bs ∧ ∀ k, inO o' k → w.heap.size ≤ k))

set_option maxRecDepth 10000 in
theorem wOut_any (w : World) (a : Nat) (o : Option Addr) (c L : Nat) (bs : List Nat) (e0 : Nat) (h : IsW 132 w a o c L bs e0) :
    Calls Tryz.prog 64 #[.pointer (some ⟨a, 0, none⟩)] w (OutTo w bs e0) := by
  have c1 : w.cell? ⟨a, 1, none⟩ = some (.slice o bs.length c) := cell_of_blk h.blk 1
  have c2 : w.cell? ⟨a, 2, none⟩ = some (.int .i64 (e0 : Nat)) := cell_of_blk h.blk 2
  by_cases he : e0 = 0
  · subst he
    go_enter Tryz.func64, Tryz.ntmps64
    go_wp2_with fail
    match o, h with
    | none, h =>
      obtain ⟨_, rfl, rfl⟩ : _ ∧ c = 0 ∧ bs = [] := by
        rcases h.row.shape with h | ⟨g, _, h, _⟩
        · exact h
        · cases h
      refine (clone_none w).mono ?_
      rintro e w1 ⟨rfl, rfl⟩
      go_wp2
      go_ret2
      exact ⟨Keeps.refl _ _, .inr ⟨rfl, none, 0, rfl, owns_nil _, fun k ⟨x, h, _⟩ => (by cases h)⟩⟩
    | some ad, h =>
      refine (clone_some w ad bs _ c rfl (h.row.row h.byt (by have := h.lid; omega)) h.lid).mono ?_
      rintro e w1 ⟨g, c', rfl, hg, hown, hk⟩
      go_wp2
      go_ret2
      exact ⟨hk, .inr ⟨rfl, _, c', rfl, hown, fun k ⟨x, h, hx⟩ => (by cases h; subst hx; exact hg)⟩⟩
  · have he' : ¬ ((e0 : Nat) : Int) = 0 := by omega
    go_enter Tryz.func64, Tryz.ntmps64
    go_wp2
    go_quiet (fail)
    go_wp2
    go_ret2
    exact ⟨keeps_drewN _ _ _, .inl ⟨he, rfl⟩⟩

theorem txtsBody_snoc (ss : List ByteArray) (k : Nat) (hk : k < ss.length) : txtsBody (natss (ss.take (k + 1))) = txtsBody (natss (ss.take k)) ++ txt (nats (ss.getD k ⟨#[]⟩)) := by
  rw [natss_snoc ss k hk, txtsBody_append]; simp [txtsBody]
theorem txt_lt (s : ByteArray) : ∀ c ∈ txt (nats s), c < 256 := app_lt (num_lt _ _) (nats_lt s)
theorem natss_length (ss : List ByteArray) : (natss ss).length = ss.length := by simp [natss]

set_option maxRecDepth 10000 in
set_option maxHeartbeats 400000 in
theorem wTexts_any (w : World) (a : Nat) (o : Option Addr) (c L : Nat) (bs : List Nat) (e0 : Nat) (ol : Option Addr) (n cl : Nat) (ss : List ByteArray) (hn : n = ss.length) (hrow : RowS w ol ss) (hs : ∀ s ∈ ss, s.size ≤ 140737488351232) (hln : ss.length ≤ 140737488351232)
    (hap : ∀ x, ol = some x → ¬ footW a o x.block ∧ x.block < w.heap.size) (hM : 4 + bodyLen (natss ss) ≤ 4611686018427387904 ∨ L ≤ 4611686018427387904) (h : IsW 132 w a o c L bs e0) (hlid : (lay L (bs, e0) (txts (natss ss))).1.length ≤ 140737488355328) :
    Calls Tryz.prog 84 #[.pointer (some ⟨a, 0, none⟩), .slice ol n cl] w fun e w' => e = .returned (.tuple #[]) ∧ WStep 132 w a o L (lay L (bs, e0) (txts (natss ss))) w' := by
  have HLID : Hid ((lay L (bs, e0) (txts (natss ss))).1.length ≤ 140737488355328) := hlid
  have HLEN : Hid ((txts (natss ss)).length = 4 + bodyLen (natss ss)) := txts_length _
  have HM : Hid (4 + bodyLen (natss ss) ≤ 4611686018427387904 ∨ L - bs.length ≤ 4611686018427387904) := by
    rcases hM with h | h
    · exact .inl h
    · exact .inr (by omega)
  have HN : Hid (n = ss.length) := hn
  have HNN : n ≤ 140737488351232 := by omega
  clear hlid hM hn
  have hlim := h.lim
  have hfit0 := h.fit
  go_enter Tryz.func84, Tryz.ntmps84
  go_wp2_with fail
  refine (room_any w a o c L bs e0 h).mono ?_
  rintro e w1 ⟨rfl, m1, rfl⟩
  go_wp2_with fail
  refine (textsSize_any (w.drewN m1) ol n cl ss (L - bs.length) HN.out (hrow.keeps (keeps_drewN (fun _ => False) w m1) (fun _ _ h => h)) hs hln (by omega) HM.out).mono ?_
  rintro e w1 ⟨z, rfl, hz, HZ, rfl⟩
  have h1 : IsW 132 (w.drewN m1) a o c L bs e0 := h.keeps (keeps_drewN (fun _ => False) w m1) (fun _ _ h => h)
  go_wp2_with fail
  refine (claims_any (w.drewN m1) a o c L bs e0 z (by omega) (by omega) h1).mono ?_
  rintro e w1 (⟨rfl, hfit, rfl, m, rfl⟩ | ⟨rfl, hlong, rfl, hW, hk⟩ | ⟨he, rfl, rfl⟩)
  · have hh : IsW 132 (w.drewN (m1 + m)) a o c L bs 0 := h.keeps (keeps_drewN (fun _ => False) _ _) (fun _ _ h => h)
    have hfit' : Hid (bs.length + (txts (natss ss)).length ≤ L) := by
      have := HZ.out
      show _ ≤ _; rw [HLEN.out]; omega
    have hb : Hid (bs.length + (txts (natss ss)).length ≤ 140737488355328) := lay_lid HLID.out rfl hfit'.out
    have c1 : w.cell? ⟨a, 1, none⟩ = some (.slice o bs.length c) := cell_of_blk h.blk 1
    have HK : Hid (Keeps (footW a o) w (w.drewN (m1 + m))) := keeps_drewN _ _ _
    have hb4 : bs.length + 4 ≤ 140737488355328 := by have := hb.out; rw [HLEN.out] at this; omega
    have hb5 : bs.length + 4 ≤ L := by have := hfit'.out; rw [HLEN.out] at this; omega
    go_wp2_with fail
    have HN' := HN.out
    rw [show ((n : Int) % 4294967296) = ((n % 4294967296 : Nat) : Int) by omega]
    refine (appendU32_any (w.drewN (m1 + m)) o _ c bs (n % 4294967296) (by omega) rfl hh.row (by omega)).mono ?_
    rintro e w1 ⟨o1, c1', n1, rfl, hn1, hown1, hfr1, hk1⟩
    rw [num4_mod] at hown1 hn1
    clear HN'
    have f1 : w1.frozen? ⟨a, 1, none⟩ = false := frozen_of_blk (hk1.at hh.blk hh.ap) 1
    obtain ⟨v1, c1⟩ : ∃ v, w1.cell? ⟨a, 1, none⟩ = some v := ⟨_, cell_of_blk (hk1.at hh.blk hh.ap) 1⟩
    have hl4 : (bs ++ num 4 n).length = bs.length + 4 := by rw [List.length_append, num_length]
    obtain ⟨hW, hK⟩ := hh.put hk1 hown1 hfr1 (by rw [hl4]; exact hb5) (app_lt h.byt (num_lt 4 n)) (by rw [hl4]; exact hb4) n1 hn1.out
    have HK2 : Hid (Keeps (footW a o) w (w1.setCell ⟨a, 1, none⟩ (.slice o1 n1 c1'))) := HK.out.trans hK
    have HF : Hid (Fresh w o o1) := hfr1
    clear hl4 hk1 hown1 hfr1 hK hh h1
    go_wp2_with fail
    go_loopw [26] (fun i wr => ∃ k : Nat, ∃ oo cc, k ≤ n ∧ i = .int .i64 k ∧ IsW 132 wr a oo cc L (bs ++ num 4 n ++ txtsBody (natss (ss.take k))) 0 ∧ Fresh w o oo ∧ Keeps (footW a o) w wr) (fun i _ => n - (intOf i).toNat)
    case atStart => exact ⟨0, o1, c1', by omega, rfl, by simpa [natss, txtsBody] using hW, HF.out, HK2.out⟩
    case round =>
      obtain ⟨k, oo, cc, hk, rfl, hWr, hFr, hKr⟩ := hrel
      by_cases h2 : k < n
      · have hks : k < ss.length := by have := HN.out; omega
        have hrr : RowS wr ol ss := hrow.keeps hKr (fun x hx => (hap x hx).1)
        rcases hrr with h0 | ⟨b, off, rfl, hc⟩
        · rw [h0] at hks; simp at hks
        obtain ⟨s, hss⟩ : ∃ s, s = ss.getD k ⟨#[]⟩ := ⟨_, rfl⟩
        have hck := hc k hks
        have hsz := getD_size ss hs k hks
        have hbs := txtsBody_snoc ss k hks
        have hlens := body_snoc ss k hks
        rw [← hss] at hck hsz hbs hlens
        have HBS : Hid (txtsBody (natss (ss.take (k + 1))) = txtsBody (natss (ss.take k)) ++ txt (nats s)) := hbs
        have hbl := body_le ss (k + 1)
        have hX1 : (bs ++ num 4 n ++ txtsBody (natss (ss.take k))).length = bs.length + 4 + bodyLen (natss (ss.take k)) := by rw [List.length_append, List.length_append, num_length, txtsBody_length]
        have hbL : bs.length + 4 + bodyLen (natss ss) ≤ L := by have := hfit'.out; rw [HLEN.out] at this; omega
        have hbB : bs.length + 4 + bodyLen (natss ss) ≤ 140737488355328 := by have := hb.out; rw [HLEN.out] at this; omega
        obtain ⟨X, hX⟩ : ∃ X, X = bs ++ num 4 n ++ txtsBody (natss (ss.take k)) := ⟨_, rfl⟩
        rw [← hX] at hWr hX1
        have HX : Hid (X = bs ++ num 4 n ++ txtsBody (natss (ss.take k))) := hX
        have HB1 : Hid (X.length + 4 + s.size ≤ L) := by show _ ≤ _; omega
        have HB2 : Hid (X.length + 4 + s.size ≤ 140737488355328) := by show _ ≤ _; omega
        clear hss hbs hlens hbl hX1 hX hbL hbB hc
        have c1 : wr.cell? ⟨a, 1, none⟩ = some (.slice oo X.length cc) := cell_of_blk hWr.blk 1
        go_wp2_with fail
        refine (appendText_any wr oo _ cc X s rfl hWr.row HB2.out).mono ?_
        rintro e w2 ⟨o2, c2', n2, rfl, hn2, hown2, hfr2, hk2⟩
        have f1 : w2.frozen? ⟨a, 1, none⟩ = false := frozen_of_blk (hk2.at hWr.blk hWr.ap) 1
        obtain ⟨v1, c1⟩ : ∃ v, w2.cell? ⟨a, 1, none⟩ = some v := ⟨_, cell_of_blk (hk2.at hWr.blk hWr.ap) 1⟩
        have hl4 : (X ++ txt (nats s)).length = X.length + 4 + s.size := by rw [List.length_append, txt_length, nats_length]; omega
        obtain ⟨hW2, hK2⟩ := hWr.put hk2 hown2 hfr2 (by rw [hl4]; exact HB1.out) (app_lt hWr.byt (txt_lt s)) (by rw [hl4]; exact HB2.out) n2 hn2.out
        clear hl4
        go_wp2_with fail
        go_roundw
        case rel =>
          refine ⟨k + 1, o2, c2', by omega, by go_num, ?_, hFr.trans hfr2 hKr.size, hKr.then hK2 ?_⟩
          · rw [HBS.out, ← List.append_assoc, ← HX.out]; exact hW2
          · rintro i (rfl | hi)
            · exact .inl (.inl rfl)
            · rcases hFr.in i hi with h' | h'
              · exact .inl (.inr h')
              · exact .inr h'
        case measure => simp [intOf]; omega
      · go_wp2_with fail
        go_end0
        obtain rfl : k = n := by omega
        rw [lay_fits _ _ _ hfit'.out]
        have e2 := HN.out
        rw [e2, List.take_length] at hWr
        refine ⟨rfl, oo, cc, ?_, hFr, hKr⟩
        show IsW 132 wr a oo cc L (bs ++ txts (natss ss)) 0
        rw [txts, natss_length, ← List.append_assoc]
        exact hWr
  · go_wp2
    refine bodyPost_ret (results_none rfl _ _ _) rfl ?_
    rw [lay_long _ _ _ (by have := HZ.out; rw [HLEN.out]; omega)]
    exact ⟨rfl, o, c, hW, .inl rfl, (keeps_drewN _ _ _).trans (hk.mono (fun i hi => .inl hi))⟩
  · go_wp2
    refine bodyPost_ret (results_none rfl _ _ _) rfl ?_
    rw [lay_err _ _ _ _ he]
    exact ⟨rfl, o, c, h1, .inl rfl, keeps_drewN _ _ _⟩
end Go.Proofs.YtgamhblkgojapaaGreatDoor
