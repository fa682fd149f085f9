import Derived.Test.YtjklpcamlppegaaGreatR4
namespace Go.Proofs.YtjklpcamlppegaaGreat
open Go.RowKit
open Pk
set_option linter.unusedVariables false
set_option linter.unusedSimpArgs false

theorem num_get (K : Nat) : ∀ (v j : Nat), j < K → (num K v)[j]? = some (v / 256 ^ (K - 1 - j) % 256) := by
  induction K with
  | zero => intro v j h; omega
  | succ K ih =>
    intro v j h
    unfold num
    by_cases hj : j < K
    · rw [List.getElem?_append_left (by rw [num_length]; exact hj), ih _ _ hj]
      congr 2
      rw [Nat.div_div_eq_div_mul, show K + 1 - 1 - j = (K - 1 - j) + 1 by omega, Nat.pow_succ, Nat.mul_comm]
    · obtain rfl : j = K := by omega
      rw [List.getElem?_append_right (by rw [num_length]; omega), num_length]
      simp
theorem num_snoc (K v k : Nat) (h : k < K) : (num K v).take (k + 1) = (num K v).take k ++ [v / 256 ^ (K - 1 - k) % 256] := by
  have := num_get K v k h
  rw [List.take_add_one, this]
  rfl

set_option maxRecDepth 10000 in
theorem refNumber_any (w : World) (v K : Nat) (hv : v < 18446744073709551616) (hK : K ≤ 8) :
    Calls Tryz.prog 37 #[.int .u64 (v : Nat), .int .i64 (K : Nat)] w (fun e w' => ∃ o' c' n', e = .returned (.slice o' n' c') ∧ Hid (n' = K) ∧ Owns w' o' c' (num K v) ∧ (∀ k, inO o' k → w.heap.size ≤ k) ∧ Keeps (fun _ => False) w w') := by
  go_enter Tryz.func37, Tryz.ntmps37
  go_wp2_with fail
  go_loopw [5, 6] (fun l i wr => ∃ (k : Nat) (oL : Option Addr) (cL : Nat), k ≤ K ∧ i = .int .i64 ((K : Int) - 1 - k) ∧ l = .slice oL k cL ∧ Owns wr oL cL ((num K v).take k) ∧ (∀ x, inO oL x → w.heap.size ≤ x) ∧ Keeps (fun _ => False) w wr) (fun _ i _ => (intOf i + 1).toNat)
  case atStart => exact ⟨0, none, 0, by omega, by go_num, rfl, owns_nil _, fun x ⟨y, h, _⟩ => (by cases h), Keeps.refl _ _⟩
  case round =>
    obtain ⟨k, oL, cL, hk, rfl, rfl, hown, hnew, hKw⟩ := hrel
    by_cases h2 : k < K
    · obtain ⟨q, hKq⟩ : ∃ q, K = k + 1 + q := ⟨K - k - 1, by omega⟩
      rw [show ((K : Int) - 1 - (k : Int)) = (q : Nat) by omega]
      have hq : q ≤ 7 := by omega
      have HKQ : Hid (K = k + 1 + q) := hKq
      have HE : Hid ((num K v).take (k + 1) = (num K v).take k ++ [v / 256 ^ q % 256]) := by
        have := num_snoc K v k (by omega)
        rw [show K - 1 - k = q by omega] at this
        exact this
      have hlt : ((num K v).take k).length = k := by rw [List.length_take, num_length]; omega
      have hrow := row_lit wr [v / 256 ^ q % 256] (by intro c hc; simp at hc; omega) (by simp)
      have e1 : (vals [v / 256 ^ q % 256]).toArray = #[.int .u8 ((v : Int) / 2 ^ (8 * q) % 256)] := by
        have h8 : (256 : Int) ^ q = 2 ^ (8 * q) := by
          have h : (256 : Nat) ^ q = 2 ^ (8 * q) := by rw [Nat.pow_mul]
          exact_mod_cast h
        simp [vals, h8]
      rw [e1] at hrow
      have HL : Hid (((num K v).take k).length = k) := hlt
      have HNW : Hid (∀ x, inO oL x → w.heap.size ≤ x) := hnew
      clear e1 hlt hnew hKq
      go_wp2_with (at_builtin; go_must (refine wpList_appB rfl _ _ rfl oL _ cL ((num K v).take k) (by rfl) HL.out.symm (hown.alloc _) (some ⟨wr.heap.size, 0, none⟩) 1 1 [v / 256 ^ q % 256] (by rfl) rfl (by simp) hrow (by omega) ?_); rintro o3 c3 w3 hown3 hfr3 hk3)
      go_roundw
      case rel =>
        have hKq := HKQ.out
        refine ⟨k + 1, o3, c3, by omega, by rw [hKq]; go_num, rfl, by rw [HE.out]; exact hown3, ?_, (hKw.alloc _).then hk3 (fun i hi => .inr (HNW.out i hi))⟩
        intro x hx
        rcases hfr3.in x hx with h' | h'
        · exact HNW.out x h'
        · have := hKw.size; simp at h'; omega
      case measure => simp [intOf]
    · go_wp2
      go_ret
      obtain rfl : k = K := by omega
      refine ⟨oL, cL, k, rfl, rfl, ?_, hnew, hKw⟩
      rw [List.take_of_length_le (by rw [num_length]; omega)] at hown
      exact hown

/-- slices of the call's own, read -/
theorem Owns.sl {w : World} {o : Option Addr} {c : Nat} {bs : List Nat} (h : Owns w o c bs) (hby : ∀ c ∈ bs, c < 256) (hl : bs.length ≤ 9223372036854775807) : BSl w o c bs := ⟨h.row hby hl, h.cap.1, h.cap.2⟩

end Go.Proofs.YtjklpcamlppegaaGreat
namespace Go.Proofs.YtjklpcamlppegaaGreat
open Go.RowKit
open Pk
set_option linter.unusedVariables false
set_option linter.unusedSimpArgs false

/-- a slice told, in new memory: these bytes -/
def NewTo (w : World) (bs : List Nat) (e : Ending) (w' : World) : Prop :=
  ∃ o' c' n', e = .returned (.slice o' n' c') ∧ Hid (n' = bs.length) ∧ Owns w' o' c' bs ∧ (∀ k, inO o' k → w.heap.size ≤ k) ∧ Keeps (fun _ => False) w w'

set_option maxRecDepth 10000 in
theorem refText_any (w : World) (s : ByteArray) (hs : s.size ≤ 140737488351232) :
    Calls Tryz.prog 69 #[.string s] w (NewTo w (txt (nats s))) := by
  go_enter Tryz.func69, Tryz.ntmps69
  go_wp2_with fail
  refine (refNumber_any w s.size 4 (by omega) (by omega)).mono ?_
  rintro e w1 ⟨o1, c1, n1, rfl, hn1, hown1, hnew1, hk1⟩
  go_wp2_with (at_builtin; go_must (refine wpList_appS rfl _ _ rfl o1 _ c1 (num 4 s.size) (by rfl) (by rw [num_length]; exact hn1.out) hown1 s (by rfl) (by have := hn1.out; omega) ?_); intro o' c' w' hown2 hfr2 hk2)
  go_ret
  refine ⟨o', c', _, rfl, ?_, ?_, ?_, hk1.then hk2 (fun i hi => .inr (hnew1 i hi))⟩
  · show _ = _; rw [txt_length, nats_length, hn1.out]
  · rw [txt, nats_length]; exact hown2
  · intro k hk
    rcases hfr2.in k hk with h' | h'
    · exact hnew1 k h'
    · have := hk1.size; omega

set_option maxRecDepth 10000 in
set_option maxHeartbeats 400000 in
theorem refTexts_any (w : World) (ol : Option Addr) (n cl : Nat) (ss : List ByteArray) (hn : n = ss.length) (hrow : RowS w ol ss) (hs : ∀ s ∈ ss, s.size ≤ 140737488351232) (hln : ss.length ≤ 140737488351232) (hlid : 4 + bodyLen (natss ss) ≤ 140737488355328) :
    Calls Tryz.prog 68 #[.slice ol n cl] w (NewTo w (txts (natss ss))) := by
  have HN : Hid (n = ss.length) := hn
  have hnn : n ≤ 140737488351232 := by omega
  have HLID : Hid (4 + bodyLen (natss ss) ≤ 140737488355328) := hlid
  clear hn hlid
  go_enter Tryz.func68, Tryz.ntmps68
  go_wp2_with fail
  refine (refNumber_any w n 4 (by omega) (by omega)).mono ?_
  rintro e w1 ⟨o1, c1, n1, rfl, hn1, hown1, hnew1, hk1⟩
  go_wp2_with fail
  go_loopw [3, 4] (fun b i wr => ∃ (k : Nat) (oL : Option Addr) (cL nL : Nat), k ≤ n ∧ i = .int .i64 k ∧ b = .slice oL nL cL ∧ nL = 4 + bodyLen (natss (ss.take k)) ∧ Owns wr oL cL (num 4 n ++ txtsBody (natss (ss.take k))) ∧ (∀ x, inO oL x → w.heap.size ≤ x) ∧ Keeps (fun _ => False) w wr) (fun _ i _ => n - (intOf i).toNat)
  case atStart => exact ⟨0, o1, c1, n1, by omega, rfl, rfl, by rw [hn1.out]; simp [natss, bodyLen], by simpa [natss, txtsBody] using hown1, hnew1, hk1⟩
  case round =>
    obtain ⟨k, oL, cL, nL, hk, rfl, rfl, hnL, hown, hnew, hK⟩ := hrel
    have HNL : Hid (nL = 4 + bodyLen (natss (ss.take k))) := hnL
    clear hnL
    by_cases h2 : k < n
    · have hks : k < ss.length := by have := HN.out; omega
      have hrr : RowS wr ol ss := hrow.keeps hK (fun x hx h => h)
      rcases hrr with h0 | ⟨b, off, rfl, hc⟩
      · rw [h0] at hks; simp at hks
      obtain ⟨s, hss⟩ : ∃ s, s = ss.getD k ⟨#[]⟩ := ⟨_, rfl⟩
      have hck := hc k hks
      have hsz := getD_size ss hs k hks
      have hbs := txtsBody_snoc ss k hks
      have hlens := body_snoc ss k hks
      rw [← hss] at hck hsz hbs hlens
      have HBS : Hid (txtsBody (natss (ss.take (k + 1))) = txtsBody (natss (ss.take k)) ++ txt (nats s)) := hbs
      have HLS : Hid (bodyLen (natss (ss.take (k + 1))) = bodyLen (natss (ss.take k)) + (4 + s.size)) := hlens
      have HBL : Hid (nL + (4 + s.size) ≤ 140737488355328) := by
        have := body_le ss (k + 1)
        have := HNL.out
        have := HLID.out
        show _ ≤ _
        omega
      clear hss hbs hlens hc
      go_wp2_with fail
      refine (refText_any wr s hsz).mono ?_
      rintro e w2 ⟨o2, c2, n2, rfl, hn2, hown2, hnew2, hk2⟩
      have HN2 : Hid (n2 = 4 + s.size) := by show _ = _; rw [hn2.out, txt_length, nats_length]
      have hownb := hown.keeps hk2 (fun _ _ h => h)
      have hsl2 := hown2.sl (txt_lt s) (by rw [txt_length, nats_length]; omega)
      go_wp2_with (at_builtin; go_must (refine wpList_appB rfl _ _ rfl oL _ cL (num 4 n ++ txtsBody (natss (ss.take k))) (by rfl) (by rw [List.length_append, num_length, txtsBody_length]; exact HNL.out) hownb o2 _ c2 (txt (nats s)) (by rfl) hn2.out hsl2.nil hsl2.row (by have := HBL.out; have := HN2.out; omega) ?_); intro o3 c3 w3 hown3 hfr3 hk3)
      go_roundw
      case rel =>
        refine ⟨k + 1, o3, c3, _, by omega, by go_num, rfl, by rw [HLS.out, HN2.out, HNL.out]; omega, by rw [HBS.out, ← List.append_assoc]; exact hown3, ?_, (hK.trans hk2).then hk3 (fun i hi => .inr (hnew i hi))⟩
        intro x hx
        rcases hfr3.in x hx with h' | h'
        · exact hnew x h'
        · have := hK.size; have := hk2.size; omega
      case measure => simp [intOf]; omega
    · go_wp2
      go_ret
      obtain rfl : k = n := by omega
      have e2 := HN.out
      have e3 := HNL.out
      rw [e2, List.take_length] at hown e3
      refine ⟨oL, cL, nL, rfl, ?_, ?_, hnew, hK⟩
      · show _ = _; rw [txts_length]; exact e3
      · rw [txts, natss_length]; exact hown

theorem body_lt (ss : List ByteArray) : ∀ c ∈ txtsBody (natss ss), c < 256 := by
  induction ss with
  | nil => intro c hc; cases hc
  | cons s ss ih =>
    intro c hc
    simp only [natss, List.map_cons, txtsBody, List.mem_append] at hc
    rcases hc with h | h
    · exact txt_lt s c h
    · exact ih c h
theorem txts_lt (ss : List ByteArray) : ∀ c ∈ txts (natss ss), c < 256 := app_lt (num_lt _ _) (body_lt ss)

end Go.Proofs.YtjklpcamlppegaaGreat
namespace Go.Proofs.YtjklpcamlppegaaGreat
open Go.RowKit
open Pk
set_option linter.unusedVariables false
set_option linter.unusedSimpArgs false

set_option maxRecDepth 10000 in
theorem refValue_any (w : World) (o : Option Addr) (n c : Nat) (bs : List Nat) (K : Nat) (hn : n = bs.length) (hrow : BRow w o bs) (h8 : K ≤ 8) (hK : K ≤ bs.length) (hlid : bs.length ≤ 140737488355328) :
    Calls Tryz.prog 110 #[.slice o n c, .int .i64 (K : Nat)] w fun e w' => e = .returned (.int .u64 (val (bs.take K) : Nat)) ∧ w' = w := by
  obtain ⟨hby, hm, hcell⟩ := hrow
  have HN : Hid (n = bs.length) := hn
  have hnK : K ≤ n := by omega
  have hn5 : n ≤ 140737488355328 := by omega
  clear hn hm hK hlid
  go_enter Tryz.func110, Tryz.ntmps110
  go_wp2_with fail
  go_loop [5, 6] (fun r i => ∃ k : Nat, k ≤ K ∧ i = .int .i64 k ∧ r = .int .u64 (val (bs.take k) : Nat)) (fun _ i => K - (intOf i).toNat)
  case atStart => exact ⟨0, by omega, rfl, by simp [val]⟩
  case round =>
    obtain ⟨k, hk, rfl, rfl⟩ := hrel
    by_cases h2 : k < K
    · have hkb : k < bs.length := by have := HN.out; omega
      have hcl := getD_lt bs hby k hkb
      have hsn := val_snoc bs k hkb
      have hvl := val_take_lt bs hby k (by omega)
      have hp : 256 ^ k ≤ 72057594037927936 := by
        have : 256 ^ k ≤ 256 ^ 7 := Nat.pow_le_pow_right (by decide) (by omega)
        simpa using this
      rcases hcell with h0 | ⟨b, off, rfl, hc⟩
      · rw [h0] at hkb; simp at hkb
      obtain ⟨x, hcc⟩ : ∃ x, x = bs.getD k 0 := ⟨_, rfl⟩
      obtain ⟨r, hr⟩ : ∃ r, r = val (bs.take k) := ⟨_, rfl⟩
      have hck := hc k hkb
      rw [← hcc] at hcl hsn hck
      rw [← hr] at hsn hvl ⊢
      have HS : Hid (val (bs.take (k + 1)) = r * 256 + x) := hsn
      have hr7 : r < 72057594037927936 := by omega
      have hor := or_num r x hr7 hcl
      clear hsn hcc hc hby hr hvl hp
      go_wp2_with fail
      go_round
      case rel => exact ⟨k + 1, by omega, by go_num, by rw [HS.out]; go_num⟩
      case measure => simp [intOf]; omega
    · go_wp2_with fail
      go_ret
      obtain rfl : k = K := by omega
      exact ⟨rfl, rfl⟩

theorem refNewReader_any (w : World) (o : Option Addr) (n c : Nat) (bs : List Nat) (hn : n = bs.length) (h : BSl w o c bs) (hlid : bs.length ≤ 140737488355328) :
    Calls Tryz.prog 75 #[.slice o n c] w fun e w' => ∃ a o' c', e = .returned (.pointer (some ⟨a, 0, none⟩)) ∧ IsR 126 w' a o' c' bs 0 ∧ (∀ k, footW a o' k → w.heap.size ≤ k) ∧ Keeps (fun _ => False) w w' := by
  subst hn
  go_enter Tryz.func75, Tryz.ntmps75
  go_wp2_with (at_builtin; go_must (refine wpList_appB rfl _ _ rfl none 0 0 [] (by rfl) rfl (owns_nil w) o _ c bs (by rfl) rfl h.nil h.row (by omega) ?_); intro o3 c3 w3 hown3 hfr3 hk3)
  go_ret
  rw [List.nil_append] at hown3
  have hk : Keeps (fun _ => False) w w3 := hk3.mono (fun k ⟨x, h, _⟩ => by cases h)
  have hnew : ∀ k, inO o3 k → w.heap.size ≤ k := by
    intro k hk
    rcases hfr3.in k hk with ⟨x, h, _⟩ | h'
    · cases h
    · exact h'
  have hsl := (hown3.alloc (.cells #[.slice o3 bs.length c3, .int .i64 0] 126)).sl h.row.1 h.row.2.1
  have hlt := hown3.lt
  refine ⟨w3.heap.size, o3, c3, rfl, ⟨?_, ?_, ?_, ?_, hlid, by simp⟩, ?_, hk.alloc _⟩
  · rw [blk_new]; simp
  · simpa using hsl
  · intro hin; have := hlt _ hin; omega
  · intro k hin; have := hlt _ hin; simp; omega
  · rintro k (rfl | hin)
    · exact hk.size
    · exact hnew k hin

set_option maxRecDepth 10000 in
theorem refRNumber_any (w : World) (a : Nat) (o : Option Addr) (c : Nat) (bs : List Nat) (e0 : Nat) (I : Nat) (hI8 : I ≤ 8) (h : IsR 126 w a o c bs e0) :
    Calls Tryz.prog 100 #[.pointer (some ⟨a, 0, none⟩), .int .i64 (I : Nat)] w fun e w' => e = .returned (.int .u64 ((rnum I (bs, e0)).1 : Nat)) ∧ RStep 126 w a o (rnum I (bs, e0)).2 w' := by
  have c0 : w.cell? ⟨a, 0, none⟩ = some (.slice o bs.length c) := cell_of_blk h.blk 0
  have c1 : w.cell? ⟨a, 1, none⟩ = some (.int .i64 (e0 : Nat)) := cell_of_blk h.blk 1
  have f0 : w.frozen? ⟨a, 0, none⟩ = false := frozen_of_blk h.blk 0
  have f1 : w.frozen? ⟨a, 1, none⟩ = false := frozen_of_blk h.blk 1
  have hlid := h.lid
  by_cases he : e0 = 0
  · subst he
    by_cases hs : bs.length < I
    · go_enter Tryz.func100, Tryz.ntmps100
      go_wp2
      go_ret
      obtain ⟨h4, hk4⟩ := h.err 4 (by omega)
      have er : rnum I (bs, 0) = (0, (bs, 4)) := by simp [rnum, hs]
      rw [er]
      exact ⟨rfl, o, c, h4, BSub.refl _, hk4⟩
    · obtain ⟨A', d', hcut', hsl', hsub'⟩ := cut_l w o c bs bs.length I I rfl rfl (by omega) h.sl
      go_enter Tryz.func100, Tryz.ntmps100
      go_wp2_with fail
      refine (refValue_any w o _ c bs I rfl h.sl.row hI8 (by omega) hlid).mono ?_
      rintro e w1 ⟨rfl, rfl⟩
      go_wp2
      go_ret
      obtain ⟨hW, hK⟩ := h.put hsl' hsub' (by rw [List.length_drop]; omega) (bs.length - I) (by rw [List.length_drop])
      have er : rnum I (bs, 0) = (val (bs.take I), (bs.drop I, 0)) := by simp [rnum, hs]
      rw [er]
      exact ⟨rfl, A', d', hW, hsub', hK⟩
  · have he' : ¬ ((e0 : Nat) : Int) = 0 := by omega
    go_enter Tryz.func100, Tryz.ntmps100
    go_wp2
    go_ret
    have er : rnum I (bs, e0) = (0, (bs, e0)) := by simp [rnum, he]
    rw [er]
    exact ⟨rfl, o, c, h, BSub.refl _, Keeps.refl _ _⟩

theorem refRU64_any (w : World) (a : Nat) (o : Option Addr) (c : Nat) (bs : List Nat) (e0 : Nat) (h : IsR 126 w a o c bs e0) :
    Calls Tryz.prog 77 #[.pointer (some ⟨a, 0, none⟩)] w fun e w' => e = .returned (.int .u64 ((rnum 8 (bs, e0)).1 : Nat)) ∧ RStep 126 w a o (rnum 8 (bs, e0)).2 w' := by
  go_enter Tryz.func77, Tryz.ntmps77
  go_wp2_with fail
  refine (refRNumber_any w a o c bs e0 8 (by omega) h).mono ?_
  rintro e w1 ⟨rfl, hst⟩
  go_wp2
  go_ret
  exact ⟨rfl, hst⟩
theorem refRU8_any (w : World) (a : Nat) (o : Option Addr) (c : Nat) (bs : List Nat) (e0 : Nat) (h : IsR 126 w a o c bs e0) :
    Calls Tryz.prog 76 #[.pointer (some ⟨a, 0, none⟩)] w fun e w' => e = .returned (.int .u8 ((rnum 1 (bs, e0)).1 : Nat)) ∧ RStep 126 w a o (rnum 1 (bs, e0)).2 w' := by
  have hlt : (rnum 1 (bs, e0)).1 < 256 := rnum_lt 1 bs e0 h.sl.row.1
  go_enter Tryz.func76, Tryz.ntmps76
  go_wp2_with fail
  refine (refRNumber_any w a o c bs e0 1 (by omega) h).mono ?_
  rintro e w1 ⟨rfl, hst⟩
  go_wp2
  go_ret
  exact ⟨rfl, hst⟩
theorem refEnd_any (w : World) (a : Nat) (o : Option Addr) (c : Nat) (bs : List Nat) (e0 : Nat) (h : IsR 126 w a o c bs e0) :
    Calls Tryz.prog 81 #[.pointer (some ⟨a, 0, none⟩)] w fun e w' => e = .returned (.int .i64 (rend bs e0 : Nat)) ∧ w' = w := by
  have c0 : w.cell? ⟨a, 0, none⟩ = some (.slice o bs.length c) := cell_of_blk h.blk 0
  have c1 : w.cell? ⟨a, 1, none⟩ = some (.int .i64 (e0 : Nat)) := cell_of_blk h.blk 1
  by_cases he : e0 = 0
  · subst he
    by_cases hl : 0 < bs.length
    · go_enter Tryz.func81, Tryz.ntmps81
      go_wp2
      go_ret
      rw [rend, if_pos ⟨rfl, hl⟩]
      exact ⟨rfl, rfl⟩
    · go_enter Tryz.func81, Tryz.ntmps81
      go_wp2
      go_ret
      rw [rend, if_neg (by omega)]
      exact ⟨rfl, rfl⟩
  · have he' : ¬ ((e0 : Nat) : Int) = 0 := by omega
    go_enter Tryz.func81, Tryz.ntmps81
    go_wp2
    go_ret
    rw [rend, if_neg (by omega)]
    exact ⟨rfl, rfl⟩

/-- what count tells -/
def RCntTo (w : World) (bs : List Nat) (most : Int) (e : Ending) (w' : World) : Prop :=
  w' = w ∧
  ((∃ er, Hid (ccount bs most = (0, bs, er)) ∧ 0 < er ∧ er ≤ 5 ∧ e = .returned (.tuple #[.int .i64 0, .int .i64 (er : Nat)])) ∨
   (∃ v, Hid (ccount bs most = (v, bs.drop 4, 0)) ∧ v < 4294967296 ∧ 4 ≤ bs.length ∧ e = .returned (.tuple #[.int .i64 (v : Nat), .int .i64 0])))

set_option maxRecDepth 10000 in
theorem refCount_any (w : World) (o : Option Addr) (n c : Nat) (bs : List Nat) (most : Int) (hn : n = bs.length) (h : BSl w o c bs) (hlid : bs.length ≤ 140737488355328) (hm1 : -9223372036854775808 ≤ most) (hm2 : most ≤ 9223372036854775807) :
    Calls Tryz.prog 101 #[.slice o n c, .int .i64 most] w (RCntTo w bs most) := by
  subst hn
  by_cases hs : bs.length < 4
  · go_enter Tryz.func101, Tryz.ntmps101
    go_wp2
    go_ret2
    exact ⟨rfl, .inl ⟨4, by show _ = _; simp [ccount, hs], by omega, by omega, rfl⟩⟩
  · have hvl : val (bs.take 4) < 4294967296 := val_take_lt bs h.row.1 4 (by omega)
    obtain ⟨v, hv⟩ : ∃ v, v = val (bs.take 4) := ⟨_, rfl⟩
    rw [← hv] at hvl
    have HV : Hid (v = val (bs.take 4)) := hv
    go_enter Tryz.func101, Tryz.ntmps101
    go_wp2_with fail
    refine (refValue_any w o _ c bs 4 rfl h.row (by omega) (by omega) hlid).mono ?_
    rw [← hv]
    clear hv
    rintro e w1 ⟨rfl, rfl⟩
    by_cases hl : most.toNat < v
    · have hl1 : max most 0 < (v : Int) := by omega
      go_wp2
      go_ret2
      exact ⟨rfl, .inl ⟨3, by show _ = _; rw [HV.out] at hl; simp [ccount, hs, hl], by omega, by omega, rfl⟩⟩
    · have hl1 : ¬ max most 0 < (v : Int) := by omega
      go_wp2
      go_ret2
      exact ⟨rfl, .inr ⟨v, by show _ = _; rw [HV.out] at hl; simp [ccount, hs, hl, HV.out], hvl, by omega, rfl⟩⟩
end Go.Proofs.YtjklpcamlppegaaGreat
namespace Go.Proofs.YtjklpcamlppegaaGreat
open Go.RowKit
open Pk
set_option linter.unusedVariables false
set_option linter.unusedSimpArgs false

theorem cut_lh (w0 : World) (o : Option Addr) (c : Nat) (bs : List Nat) (n I J : Nat) (i j : Int) (hi : i = (I : Nat)) (hj : j = ((I + J : Nat) : Int)) (hn : n = bs.length) (hI : I + J ≤ n) (h : BSl w0 o c bs) :
    ∃ A d, (∀ w, (Instr.slice 38 (.slice o n c) (some (.int .i64 i)) (some (.int .i64 j)) none).run Tryz.prog w = .ok (.slice A J d) w) ∧ BSl w0 A d ((bs.drop I).take J) ∧ BSub o A := by
  subst hi hj hn
  have hcap := h.cap
  match o, h with
  | none, h =>
    obtain rfl : c = 0 := h.nil rfl
    obtain ⟨rfl, rfl⟩ : I = 0 ∧ J = 0 := by omega
    have h0 : bs = [] := List.length_eq_zero_iff.mp (by omega)
    subst h0
    refine ⟨none, 0, fun w => ?_, ⟨h.row.take 0, by simp, fun _ => rfl⟩, BSub.refl _⟩
    rw [run_slice_lh w 38 none _ 0 slB .i64 .i64 _ _ (by omega) (by omega) (by omega)]
    go_simp
  | some ad, h =>
    refine ⟨some (if c = I then ad else ad.add I), c - I, fun w => ?_, ⟨(BRow.drop h.row I (fun hlt b off e => ?_)).take J, by rw [List.length_take, List.length_drop]; omega, by simp⟩, ?_⟩
    · rw [run_slice_lh w 38 (some ad) _ c slB .i64 .i64 _ _ (by omega) (by omega) (by omega)]
      have e : ((I : Int) + (J : Int)).toNat - I = J := by omega
      by_cases h : c = I
      · go_simp
      · go_simp
    · cases e
      rw [if_neg (by omega), addr_add]
    · intro x hx
      refine ⟨ad, rfl, ?_⟩
      cases hx
      split
      · rfl
      · obtain ⟨b, off, sp⟩ := ad
        simp [Addr.add]
        split <;> rfl

/-- what text tells -/
def RTxtTo (w : World) (o : Option Addr) (bs : List Nat) (most : Int) (e : Ending) (w' : World) : Prop :=
  (∃ m, w' = w.drewN m) ∧
  ((∃ er vr, Hid (ctext bs most = ([], bs, er)) ∧ 0 < er ∧ er ≤ 5 ∧ e = .returned (.tuple #[.string ⟨#[]⟩, vr, .int .i64 (er : Nat)])) ∨
   (∃ s r o2 c2 n2, Hid (ctext bs most = (s, r, 0)) ∧ e = .returned (.tuple #[.string (text s), .slice o2 n2 c2, .int .i64 0]) ∧ Hid (n2 = r.length) ∧ n2 ≤ 140737488355328 ∧ BSl w o2 c2 r ∧ BSub o o2 ∧ Hid (∀ c ∈ s, c < 256)))

set_option maxRecDepth 10000 in
theorem refRtext_any (w : World) (o : Option Addr) (n c : Nat) (bs : List Nat) (most : Int) (hn : n = bs.length) (h : BSl w o c bs) (hlid : bs.length ≤ 140737488355328) (hm1 : -9223372036854775808 ≤ most) (hm2 : most ≤ 9223372036854775807) :
    Calls Tryz.prog 102 #[.slice o n c, .int .i64 most] w (RTxtTo w o bs most) := by
  have HN : Hid (n = bs.length) := hn
  have hn5 : n ≤ 140737488355328 := by omega
  clear hn
  go_enter Tryz.func102, Tryz.ntmps102
  go_wp2_with fail
  refine (refCount_any w o n c bs most HN.out h hlid hm1 hm2).mono ?_
  rintro e w1 ⟨rfl, ⟨er, HE, her, her5, rfl⟩ | ⟨v, HE, hv, h4, rfl⟩⟩
  · have her' : ¬ ((er : Nat) : Int) = 0 := by omega
    go_wp2
    go_ret3
    exact ⟨⟨0, rfl⟩, .inl ⟨er, _, by show _ = _; simp [ctext, HE.out]; omega, her, her5, rfl⟩⟩
  · have h4n : 4 ≤ n := by have := HN.out; omega
    by_cases hlt : n - 4 < v
    · have hlt' : (n : Int) - 4 < v := by omega
      go_wp2
      go_ret3
      exact ⟨⟨0, rfl⟩, .inl ⟨4, _, by show _ = _; have := HN.out; simp [ctext, HE.out]; omega, by omega, by omega, rfl⟩⟩
    · have hlt' : ¬ (n : Int) - 4 < v := by omega
      obtain ⟨A, d, hcut, hsl1, hsub1⟩ := cut_lh w1 o c bs n 4 v 4 (4 + (v : Int)) rfl (by omega) HN.out (by omega) h
      obtain ⟨A', d', hcut', hsl', hsub'⟩ := cut_l w1 o c bs n (4 + v) (4 + (v : Int)) (by omega) HN.out (by omega) h
      have HL1 : Hid (v = ((bs.drop 4).take v).length) := by have := HN.out; show _ = _; rw [List.length_take, List.length_drop]; omega
      have hcv : ∀ q, (convert 38 9 (.slice A v d)).run Tryz.prog (w1.drewN q) = .ok (.string (text ((bs.drop 4).take v))) (w1.drewN q) := fun q => run_text _ A _ v d HL1.out (hsl1.drewN q).row
      have HB : Hid (∀ c ∈ (bs.drop 4).take v, c < 256) := hsl1.row.1
      obtain ⟨S, hS⟩ : ∃ S, S = (bs.drop 4).take v := ⟨_, rfl⟩
      rw [← hS] at hcv
      have HS : Hid (S = (bs.drop 4).take v) := hS
      clear hS
      go_wp2
      go_quiet (fail)
      go_wp2
      go_ret3
      refine ⟨⟨_, rfl⟩, .inr ⟨(bs.drop 4).take v, bs.drop (4 + v), A', d', n - (4 + v), ?_, by rw [← HS.out]; rfl, ?_, by omega, hsl', hsub', HB⟩⟩
      · have := HN.out
        show _ = _
        unfold ctext
        rw [HE.out]
        simp
        omega
      · show _ = _; rw [List.length_drop, HN.out]

set_option maxRecDepth 10000 in
theorem refRCount_any (w : World) (a : Nat) (o : Option Addr) (c : Nat) (bs : List Nat) (e0 : Nat) (most : Int) (hm1 : -9223372036854775808 ≤ most) (hm2 : most ≤ 9223372036854775807) (h : IsR 126 w a o c bs e0) :
    Calls Tryz.prog 79 #[.pointer (some ⟨a, 0, none⟩), .int .i64 most] w fun e w' => e = .returned (.int .i64 ((rcount most (bs, e0)).1 : Nat)) ∧ RStep 126 w a o (rcount most (bs, e0)).2 w' := by
  have c0 : w.cell? ⟨a, 0, none⟩ = some (.slice o bs.length c) := cell_of_blk h.blk 0
  have c1 : w.cell? ⟨a, 1, none⟩ = some (.int .i64 (e0 : Nat)) := cell_of_blk h.blk 1
  have f0 : w.frozen? ⟨a, 0, none⟩ = false := frozen_of_blk h.blk 0
  have f1 : w.frozen? ⟨a, 1, none⟩ = false := frozen_of_blk h.blk 1
  have hlid := h.lid
  by_cases he : e0 = 0
  · subst he
    go_enter Tryz.func79, Tryz.ntmps79
    go_wp2_with fail
    refine (refCount_any w o _ c bs most rfl h.sl hlid hm1 hm2).mono ?_
    rintro e w1 ⟨rfl, ⟨er, HE, her, her5, rfl⟩ | ⟨v, HE, hv, h4, rfl⟩⟩
    · have her' : ¬ ((er : Nat) : Int) = 0 := by omega
      go_wp2
      go_ret
      obtain ⟨h4, hk4⟩ := h.err er her5
      have er : rcount most (bs, 0) = (0, (bs, er)) := by simp [rcount, HE.out]; omega
      rw [er]
      exact ⟨rfl, o, c, h4, BSub.refl _, hk4⟩
    · obtain ⟨A', d', hcut', hsl', hsub'⟩ := cut_l w1 o c bs bs.length 4 4 rfl rfl h4 h.sl
      go_wp2
      go_ret
      obtain ⟨hW, hK⟩ := h.put hsl' hsub' (by rw [List.length_drop]; omega) (bs.length - 4) (by rw [List.length_drop])
      have er : rcount most (bs, 0) = (v, (bs.drop 4, 0)) := by simp [rcount, HE.out]
      rw [er]
      exact ⟨rfl, A', d', hW, hsub', hK⟩
  · have he' : ¬ ((e0 : Nat) : Int) = 0 := by omega
    go_enter Tryz.func79, Tryz.ntmps79
    go_wp2
    go_ret
    have er : rcount most (bs, e0) = (0, (bs, e0)) := by simp [rcount, he]
    rw [er]
    exact ⟨rfl, o, c, h, BSub.refl _, Keeps.refl _ _⟩

set_option maxRecDepth 10000 in
theorem refRText_any (w : World) (a : Nat) (o : Option Addr) (c : Nat) (bs : List Nat) (e0 : Nat) (most : Int) (hm1 : -9223372036854775808 ≤ most) (hm2 : most ≤ 9223372036854775807) (h : IsR 126 w a o c bs e0) :
    Calls Tryz.prog 80 #[.pointer (some ⟨a, 0, none⟩), .int .i64 most] w fun e w' => e = .returned (.string (text (rtext most (bs, e0)).1)) ∧ RStep 126 w a o (rtext most (bs, e0)).2 w' := by
  have c0 : w.cell? ⟨a, 0, none⟩ = some (.slice o bs.length c) := cell_of_blk h.blk 0
  have c1 : w.cell? ⟨a, 1, none⟩ = some (.int .i64 (e0 : Nat)) := cell_of_blk h.blk 1
  have f0 : w.frozen? ⟨a, 0, none⟩ = false := frozen_of_blk h.blk 0
  have f1 : w.frozen? ⟨a, 1, none⟩ = false := frozen_of_blk h.blk 1
  have hlid := h.lid
  by_cases he : e0 = 0
  · subst he
    go_enter Tryz.func80, Tryz.ntmps80
    go_wp2_with fail
    refine (refRtext_any w o _ c bs most rfl h.sl hlid hm1 hm2).mono ?_
    rintro e w1 ⟨⟨m, rfl⟩, ⟨er, vr, HE, her, her5, rfl⟩ | ⟨s, r, o2, c2, n2, HE, rfl, hn2, hn25, hsl2, hsub2, HB⟩⟩
    · have her' : ¬ ((er : Nat) : Int) = 0 := by omega
      go_wp2
      go_ret
      obtain ⟨h4, hk4⟩ := (h.drewN m).err er her5
      have er : rtext most (bs, 0) = ([], (bs, er)) := by simp [rtext, HE.out]; omega
      rw [er]
      exact ⟨rfl, o, c, h4, BSub.refl _, (keeps_drewN _ _ _).trans hk4⟩
    · obtain ⟨hW, hK⟩ := (h.drewN m).put (hsl2.drewN m) hsub2 (by have := hn2.out; omega) n2 hn2.out
      go_wp2
      go_ret
      have er : rtext most (bs, 0) = (s, (r, 0)) := by simp [rtext, HE.out]
      rw [er]
      exact ⟨rfl, o2, c2, hW, hsub2, (keeps_drewN _ _ _).trans hK⟩
  · have he' : ¬ ((e0 : Nat) : Int) = 0 := by omega
    go_enter Tryz.func80, Tryz.ntmps80
    go_wp2
    go_ret
    have er : rtext most (bs, e0) = ([], (bs, e0)) := by simp [rtext, he]
    rw [er]
    exact ⟨rfl, o, c, h, BSub.refl _, Keeps.refl _ _⟩

set_option maxRecDepth 10000 in
set_option maxHeartbeats 400000 in
theorem refRTexts_any (w : World) (a : Nat) (o : Option Addr) (c : Nat) (bs : List Nat) (e0 : Nat) (count most : Int) (hc1 : -9223372036854775808 ≤ count) (hc2 : count ≤ 9223372036854775807) (hm1 : -9223372036854775808 ≤ most) (hm2 : most ≤ 9223372036854775807) (h : IsR 126 w a o c bs e0) :
    Calls Tryz.prog 78 #[.pointer (some ⟨a, 0, none⟩), .int .i64 count, .int .i64 most] w fun e w' => TellsS w (rtexts count most (bs, e0)).1 e w' ∧ RStep 126 w a o (rtexts count most (bs, e0)).2 w' := by
  have c0 : w.cell? ⟨a, 0, none⟩ = some (.slice o bs.length c) := cell_of_blk h.blk 0
  have c1 : w.cell? ⟨a, 1, none⟩ = some (.int .i64 (e0 : Nat)) := cell_of_blk h.blk 1
  have f1 : w.frozen? ⟨a, 1, none⟩ = false := frozen_of_blk h.blk 1
  have hlid := h.lid
  by_cases he : e0 = 0
  · subst he
    go_enter Tryz.func78, Tryz.ntmps78
    go_wp2_with fail
    refine (refCount_any w o _ c bs count rfl h.sl hlid hc1 hc2).mono ?_
    rintro e w1 ⟨rfl, ⟨er, HE, her, her5, rfl⟩ | ⟨v, HE, hv, h4, rfl⟩⟩
    · have her' : ¬ ((er : Nat) : Int) = 0 := by omega
      obtain ⟨h4, hk4⟩ := h.err er her5
      go_wp2
      go_ret
      have hne : er ≠ 0 := by omega
      have er : rtexts count most (bs, 0) = ([], (bs, er)) := by simp [rtexts, ctexts, HE.out, hne]
      rw [er]
      exact ⟨⟨none, 0, 0, rfl, rfl, by omega, ownsS_nil _, fun k ⟨x, h, _⟩ => (by cases h), fun s hs => (by cases hs)⟩, o, c, h4, BSub.refl _, hk4⟩
    · obtain ⟨A', d', hcut', hsl', hsub'⟩ := cut_l w1 o c bs bs.length 4 4 rfl rfl h4 h.sl
      have HSL : Hid (BSl w1 A' d' (bs.drop 4)) := hsl'
      clear hsl'
      go_wp2_with fail
      go_loopw [9, 10, 11] (fun r l i wr => ∃ (k : Nat) (ls : List (List Nat)) (rs : List Nat) (oR : Option Addr) (cR nR : Nat) (oL : Option Addr) (cL : Nat), k ≤ v ∧ i = .int .i64 k ∧ r = .slice oR nR cR ∧ l = .slice oL k cL ∧ k = ls.length ∧ nR = rs.length ∧ nR ≤ 140737488355328 ∧ ctextsN k (bs.drop 4) most = (ls, rs, 0) ∧ Keeps (fun _ => False) w1 wr ∧ BSl wr oR cR rs ∧ BSub o oR ∧ OwnsS wr oL cL (ls.map text) ∧ (∀ x, inO oL x → w1.heap.size ≤ x) ∧ (∀ s ∈ ls, ∀ c ∈ s, c < 256)) (fun _ _ i _ => v - (intOf i).toNat)
      case atStart => exact ⟨0, [], bs.drop 4, A', d', bs.length - 4, none, 0, by omega, rfl, rfl, rfl, rfl, by rw [List.length_drop], by omega, rfl, Keeps.refl _ _, HSL.out, hsub', ownsS_nil _, fun x ⟨y, h, _⟩ => (by cases h), fun s hs => (by cases hs)⟩
      case round =>
        obtain ⟨k, ls, rs, oR, cR, nR, oL, cL, hk, rfl, rfl, rfl, hkl, hnr, hnr5, hct, hK, hslr, hsubr, hown, hnew, hby⟩ := hrel
        have HKL : Hid (k = ls.length) := hkl
        have HNR : Hid (nR = rs.length) := hnr
        have HCT : Hid (ctextsN k (bs.drop 4) most = (ls, rs, 0)) := hct
        have HBY : Hid (∀ s ∈ ls, ∀ c ∈ s, c < 256) := hby
        have hr := h.keeps hK (fun _ _ h => h)
        clear hkl hnr hct hby
        by_cases h2 : k < v
        · go_wp2_with fail
          refine (refRtext_any wr oR nR cR rs most HNR.out hslr (by have := HNR.out; omega) hm1 hm2).mono ?_
          rintro e w2 ⟨⟨m2, rfl⟩, ⟨er, vr, HE2, her, her5, rfl⟩ | ⟨s, r, o2, c2, n2, HE2, rfl, hn2, hn25, hsl2, hsub2, HB⟩⟩
          · have her' : ¬ ((er : Nat) : Int) = 0 := by omega
            obtain ⟨h4, hk4⟩ := (hr.drewN m2).err er her5
            have f1 : wr.frozen? ⟨a, 1, none⟩ = false := frozen_of_blk hr.blk 1
            have c1 : wr.cell? ⟨a, 1, none⟩ = some (.int .i64 0) := cell_of_blk hr.blk 1
            go_wp2
            go_ret
            have er : rtexts count most (bs, 0) = ([], (bs, er)) := by
              unfold rtexts ctexts
              have hne : er ≠ 0 := by omega
              simp [HE.out, ctextsN_err most k v h2 _ _ _ er hne HCT.out HE2.out, hne]
            rw [er]
            exact ⟨⟨none, 0, 0, rfl, rfl, by omega, ownsS_nil _, fun k ⟨x, h, _⟩ => (by cases h), fun s hs => (by cases hs)⟩, o, c, h4, BSub.refl _, (hK.mono (fun _ h => h.elim)).trans ((keeps_drewN _ _ _).trans hk4)⟩
          · have hrs : RowS ((wr.drewN m2).alloc (.cells #[.string (text s)] 9)) (some ⟨wr.heap.size, 0, none⟩) [text s] := by
              refine .inr ⟨_, _, rfl, fun j hj => ?_⟩
              show World.cell? _ ⟨(wr.drewN m2).heap.size, 0 + j, none⟩ = _
              rw [cell_of_blk (blk_new (wr.drewN m2) _)]
              match j, hj with
              | 0, _ => rfl
            have hown2 : OwnsS ((wr.drewN m2).alloc (.cells #[.string (text s)] 9)) oL cL (ls.map text) := (hown.keeps (keeps_drewN (fun _ => False) _ m2) (fun _ _ h => h)).alloc _
            go_wp2_with (at_builtin; go_must (refine wpList_appL rfl _ _ rfl oL _ cL (ls.map text) (by rfl) (by rw [List.length_map]; exact HKL.out) hown2 (some ⟨wr.heap.size, 0, none⟩) 1 1 [text s] (by rfl) rfl (by simp) hrs (by omega) ?_); rintro o3 c3 w3 hown3 hfr3 hk3)
            go_roundw
            case rel =>
              have hK3 : Keeps (fun _ => False) w1 w3 := ((hK.trans (keeps_drewN _ _ m2)).alloc _).then hk3 (fun i hi => .inr (hnew i hi))
              have hk3' : Keeps (fun k => w1.heap.size ≤ k ∧ inO oL k) wr w3 := (((keeps_drewN _ wr m2)).alloc _).then hk3 (fun i hi => .inl ⟨hnew i hi, hi⟩)
              refine ⟨k + 1, ls ++ [s], r, o2, c2, n2, o3, c3, by omega, by go_num, rfl, rfl, by rw [List.length_append, ← HKL.out]; rfl, hn2.out, hn25, ctextsN_snoc most k _ ls rs s r HCT.out HE2.out, hK3, ?_, hsubr.trans hsub2, ?_, ?_, ?_⟩
              · refine hsl2.keeps hk3' (fun x hx hh => ?_)
                have := h.live x ((hsubr.trans hsub2).in x hx)
                omega
              · rw [List.map_append]; exact hown3
              · intro x hx
                rcases hfr3.in x hx with h' | h'
                · exact hnew x h'
                · have := hK.size; simp at h'; omega
              · intro s' hs'
                rcases List.mem_append.mp hs' with h' | h'
                · exact HBY.out s' h'
                · simp at h'; rw [h']; exact HB.out
            case measure => simp [intOf]; omega
        · have f0 : wr.frozen? ⟨a, 0, none⟩ = false := frozen_of_blk hr.blk 0
          have c00 : wr.cell? ⟨a, 0, none⟩ = some (.slice o bs.length c) := cell_of_blk hr.blk 0
          obtain ⟨hW, hKK⟩ := hr.put hslr hsubr (by have := HNR.out; omega) nR HNR.out
          go_wp2
          go_ret
          obtain rfl : k = v := by omega
          have er : rtexts count most (bs, 0) = (ls, (rs, 0)) := by
            unfold rtexts ctexts
            simp [HE.out, HCT.out]
          rw [er]
          refine ⟨⟨oL, cL, k, rfl, HKL.out, by omega, hown.keeps hKK (fun x hx e => ?_), hnew, HBY.out⟩, oR, cR, hW, hsubr, (hK.mono (fun _ h => h.elim)).trans hKK⟩
          have := hnew x hx
          have := lt_of_block h.blk
          omega
  · have he' : ¬ ((e0 : Nat) : Int) = 0 := by omega
    go_enter Tryz.func78, Tryz.ntmps78
    go_wp2
    go_ret
    have er : rtexts count most (bs, e0) = ([], (bs, e0)) := by simp [rtexts, he]
    rw [er]
    exact ⟨⟨none, 0, 0, rfl, rfl, by omega, ownsS_nil _, fun k ⟨x, h, _⟩ => (by cases h), fun s hs => (by cases hs)⟩, o, c, h, BSub.refl _, Keeps.refl _ _⟩
end Go.Proofs.YtjklpcamlppegaaGreat
