import Derived.Test.YtclheacjhkoocaaF1
namespace Go.Proofs.Ytclheacjhkoocaa
open Go.RowKit
open Pk
set_option linter.unusedVariables false
set_option linter.unusedSimpArgs false

theorem refNewWriter_any (l : Int) (w : World) (h1 : -9223372036854775808 ≤ l) (h2 : l ≤ 9223372036854775807) :
    Calls Try.prog 29 #[.int .i64 l] w fun e w' => e = .returned (.pointer (some ⟨w.heap.size, 0, none⟩)) ∧ IsW 85 w' w.heap.size none 0 l.toNat [] 0 ∧ Keeps (fun _ => False) w w' := by
  go_enter Try.func29, Try.ntmps29
  go_wp2
  go_ret
  refine ⟨rfl, ⟨?_, owns_nil _, fun ⟨x, h, _⟩ => (by cases h), Nat.zero_le _, by omega, (fun _ h => by cases h), Nat.zero_le _, Nat.zero_le _⟩, (Keeps.refl _ _).alloc _⟩
  rw [blk_new, show (max l 0) = ((l.toNat : Nat) : Int) by omega]
  rfl

/-- a slice told, in new memory: these bytes -/
def NewTo (w : World) (bs : List Nat) (e : Ending) (w' : World) : Prop :=
  ∃ o' c' n', e = .returned (.slice o' n' c') ∧ Hid (n' = bs.length) ∧ Owns w' o' c' bs ∧ (∀ k, inO o' k → w.heap.size ≤ k) ∧ Keeps (fun _ => False) w w'

set_option maxRecDepth 10000 in
theorem refText_any (w : World) (s : ByteArray) (hs : s.size ≤ 140737488351232) :
    Calls Try.prog 68 #[.string s] w (NewTo w (txt (nats s))) := by
  go_enter Try.func68, Try.ntmps68
  go_wp2_with fail
  refine (refNumber_any w s.size 4 (by omega) (by omega)).mono ?_
  rintro e w1 ⟨o1, c1, n1, rfl, hn1, hown1, hnew1, hk1⟩
  go_wp2_with (at_builtin; go_must (refine wpList_appS rfl _ _ rfl o1 _ c1 (num 4 s.size) (by rfl) (by rw [num_length]; exact hn1.out) hown1 s (by rfl) (by have := hn1.out; omega) ?_); intro o' c' w' hown2 hfr2 hk2)
  go_ret
  refine ⟨o', c', _, rfl, ?_, ?_, ?_, hk1.then hk2 (fun i hi => .inr (hnew1 i hi))⟩
  · show _ = _; rw [txt_length, nats_length, hn1.out]
  · rw [txt, nats_length]; exact hown2
  · intro k hk
    rcases hfr2.in k hk with h' | h'
    · exact hnew1 k h'
    · have := hk1.size; omega

set_option maxRecDepth 10000 in
set_option maxHeartbeats 400000 in
theorem refTexts_any (w : World) (ol : Option Addr) (n cl : Nat) (ss : List ByteArray) (hn : n = ss.length) (hrow : RowS w ol ss) (hs : ∀ s ∈ ss, s.size ≤ 140737488351232) (hln : ss.length ≤ 140737488351232) (hlid : 4 + bodyLen (natss ss) ≤ 140737488355328) :
    Calls Try.prog 69 #[.slice ol n cl] w (NewTo w (txts (natss ss))) := by
  have HN : Hid (n = ss.length) := hn
  have hnn : n ≤ 140737488351232 := by omega
  have HLID : Hid (4 + bodyLen (natss ss) ≤ 140737488355328) := hlid
  clear hn hlid
  go_enter Try.func69, Try.ntmps69
  go_wp2_with fail
  refine (refNumber_any w n 4 (by omega) (by omega)).mono ?_
  rintro e w1 ⟨o1, c1, n1, rfl, hn1, hown1, hnew1, hk1⟩
  go_wp2_with fail
  go_loopw [3, 4] (fun b i wr => ∃ (k : Nat) (oL : Option Addr) (cL nL : Nat), k ≤ n ∧ i = .int .i64 k ∧ b = .slice oL nL cL ∧ nL = 4 + bodyLen (natss (ss.take k)) ∧ Owns wr oL cL (num 4 n ++ txtsBody (natss (ss.take k))) ∧ (∀ x, inO oL x → w.heap.size ≤ x) ∧ Keeps (fun _ => False) w wr) (fun _ i _ => n - (intOf i).toNat)
  case atStart => exact ⟨0, o1, c1, n1, by omega, rfl, rfl, by rw [hn1.out]; simp [natss, bodyLen], by simpa [natss, txtsBody] using hown1, hnew1, hk1⟩
  case round =>
    obtain ⟨k, oL, cL, nL, hk, rfl, rfl, hnL, hown, hnew, hK⟩ := hrel
    have HNL : Hid (nL = 4 + bodyLen (natss (ss.take k))) := hnL
    clear hnL
    by_cases h2 : k < n
    · have hks : k < ss.length := by have := HN.out; omega
      have hrr : RowS wr ol ss := hrow.keeps hK (fun x hx h => h)
      rcases hrr with h0 | ⟨b, off, rfl, hc⟩
      · rw [h0] at hks; simp at hks
      obtain ⟨s, hss⟩ : ∃ s, s = ss.getD k ⟨#[]⟩ := ⟨_, rfl⟩
      have hck := hc k hks
      have hsz := getD_size ss hs k hks
      have hbs := txtsBody_snoc ss k hks
      have hlens := body_snoc ss k hks
      rw [← hss] at hck hsz hbs hlens
      have HBS : Hid (txtsBody (natss (ss.take (k + 1))) = txtsBody (natss (ss.take k)) ++ txt (nats s)) := hbs
      have HLS : Hid (bodyLen (natss (ss.take (k + 1))) = bodyLen (natss (ss.take k)) + (4 + s.size)) := hlens
      have HBL : Hid (nL + (4 + s.size) ≤ 140737488355328) := by
        have := body_le ss (k + 1)
        have := HNL.out
        have := HLID.out
        show _ ≤ _
        omega
      clear hss hbs hlens hc
      go_wp2_with fail
      refine (refText_any wr s hsz).mono ?_
      rintro e w2 ⟨o2, c2, n2, rfl, hn2, hown2, hnew2, hk2⟩
      have HN2 : Hid (n2 = 4 + s.size) := by show _ = _; rw [hn2.out, txt_length, nats_length]
      have hownb := hown.keeps hk2 (fun _ _ h => h)
      have hsl2 := hown2.sl (txt_lt s) (by rw [txt_length, nats_length]; omega)
      go_wp2_with (at_builtin; go_must (refine wpList_app rfl _ _ rfl oL _ cL (num 4 n ++ txtsBody (natss (ss.take k))) (by rfl) (by rw [List.length_append, num_length, txtsBody_length]; exact HNL.out) hownb o2 _ c2 (txt (nats s)) (by rfl) hn2.out hsl2.nil hsl2.row (by have := HBL.out; have := HN2.out; omega) ?_); intro o3 c3 w3 hown3 hfr3 hk3)
      go_roundw
      case rel =>
        refine ⟨k + 1, o3, c3, _, by omega, by go_num, rfl, by rw [HLS.out, HN2.out, HNL.out]; omega, by rw [HBS.out, ← List.append_assoc]; exact hown3, ?_, (hK.trans hk2).then hk3 (fun i hi => .inr (hnew i hi))⟩
        intro x hx
        rcases hfr3.in x hx with h' | h'
        · exact hnew x h'
        · have := hK.size; have := hk2.size; omega
      case measure => simp [intOf]; omega
    · go_wp2
      go_ret
      obtain rfl : k = n := by omega
      have e2 := HN.out
      have e3 := HNL.out
      rw [e2, List.take_length] at hown e3
      refine ⟨oL, cL, nL, rfl, ?_, ?_, hnew, hK⟩
      · show _ = _; rw [txts_length]; exact e3
      · rw [txts, natss_length]; exact hown

theorem fresh_ap' {w : World} {t a : Nat} {o ob : Option Addr} {c L : Nat} {bs : List Nat} {e : Nat} (h : IsW t w a o c L bs e) (hnew : ∀ k, inO ob k → w.heap.size ≤ k) : ∀ k, inO ob k → ¬ footW a o k := by
  intro k hk hf
  have := hnew k hk
  have := h.lt k hf
  omega
theorem wstep_after {w w1 w' : World} {t a : Nat} {o : Option Addr} {L : Nat} {st : WS} (hk : Keeps (fun _ => False) w w1) (h : WStep t w1 a o L st w') : WStep t w a o L st w' := by
  obtain ⟨o', c', h1, h2, h3⟩ := h
  exact ⟨o', c', h1, h2.old hk.size, (hk.mono (fun _ h => h.elim)).trans h3⟩


set_option maxRecDepth 10000 in
theorem refU8_any (w : World) (a : Nat) (o : Option Addr) (c L : Nat) (bs : List Nat) (e0 : Nat) (v : Nat) (hv : v < 256) (h : IsW 85 w a o c L bs e0) (hlid : (lay L (bs, e0) (num 1 v)).1.length ≤ 140737488355328) :
    Calls Try.prog 50 #[.pointer (some ⟨a, 0, none⟩), .int .u8 (v : Nat)] w fun e w' => e = .returned (.tuple #[]) ∧ WStep 85 w a o L (lay L (bs, e0) (num 1 v)) w' := by
  have HLID : Hid ((lay L (bs, e0) (num 1 v)).1.length ≤ 140737488355328) := hlid
  clear hlid
  go_enter Try.func50, Try.ntmps50
  go_wp2_with fail
  refine (refNumber_any w v 1 (by omega) (by omega)).mono ?_
  rintro e w1 ⟨o1, c1, n1, rfl, hn1, hown1, hnew1, hk1⟩
  have h1 := h.keeps hk1 (fun _ _ h => h)
  go_wp2_with fail
  refine (refLay_any w1 a o c L bs e0 o1 n1 c1 (num 1 v) (by rw [num_length]; exact hn1.out) ((show (num 1 v).length ≤ 140737488355328 by rw [num_length]; omega)) (hown1.sl (num_lt 1 v) (by have := (show (num 1 v).length ≤ 140737488355328 by rw [num_length]; omega); omega)) (fresh_ap' h hnew1) h1 HLID.out).mono ?_
  rintro e w2 ⟨rfl, hst⟩
  go_wp2
  go_end0
  exact ⟨rfl, wstep_after hk1 hst⟩

set_option maxRecDepth 10000 in
theorem refU32_any (w : World) (a : Nat) (o : Option Addr) (c L : Nat) (bs : List Nat) (e0 : Nat) (v : Nat) (hv : v < 4294967296) (h : IsW 85 w a o c L bs e0) (hlid : (lay L (bs, e0) (num 4 v)).1.length ≤ 140737488355328) :
    Calls Try.prog 51 #[.pointer (some ⟨a, 0, none⟩), .int .u32 (v : Nat)] w fun e w' => e = .returned (.tuple #[]) ∧ WStep 85 w a o L (lay L (bs, e0) (num 4 v)) w' := by
  have HLID : Hid ((lay L (bs, e0) (num 4 v)).1.length ≤ 140737488355328) := hlid
  clear hlid
  go_enter Try.func51, Try.ntmps51
  go_wp2_with fail
  refine (refNumber_any w v 4 (by omega) (by omega)).mono ?_
  rintro e w1 ⟨o1, c1, n1, rfl, hn1, hown1, hnew1, hk1⟩
  have h1 := h.keeps hk1 (fun _ _ h => h)
  go_wp2_with fail
  refine (refLay_any w1 a o c L bs e0 o1 n1 c1 (num 4 v) (by rw [num_length]; exact hn1.out) ((show (num 4 v).length ≤ 140737488355328 by rw [num_length]; omega)) (hown1.sl (num_lt 4 v) (by have := (show (num 4 v).length ≤ 140737488355328 by rw [num_length]; omega); omega)) (fresh_ap' h hnew1) h1 HLID.out).mono ?_
  rintro e w2 ⟨rfl, hst⟩
  go_wp2
  go_end0
  exact ⟨rfl, wstep_after hk1 hst⟩

set_option maxRecDepth 10000 in
theorem refU64_any (w : World) (a : Nat) (o : Option Addr) (c L : Nat) (bs : List Nat) (e0 : Nat) (v : Nat) (hv : v < 18446744073709551616) (h : IsW 85 w a o c L bs e0) (hlid : (lay L (bs, e0) (num 8 v)).1.length ≤ 140737488355328) :
    Calls Try.prog 52 #[.pointer (some ⟨a, 0, none⟩), .int .u64 (v : Nat)] w fun e w' => e = .returned (.tuple #[]) ∧ WStep 85 w a o L (lay L (bs, e0) (num 8 v)) w' := by
  have HLID : Hid ((lay L (bs, e0) (num 8 v)).1.length ≤ 140737488355328) := hlid
  clear hlid
  go_enter Try.func52, Try.ntmps52
  go_wp2_with fail
  refine (refNumber_any w v 8 (by omega) (by omega)).mono ?_
  rintro e w1 ⟨o1, c1, n1, rfl, hn1, hown1, hnew1, hk1⟩
  have h1 := h.keeps hk1 (fun _ _ h => h)
  go_wp2_with fail
  refine (refLay_any w1 a o c L bs e0 o1 n1 c1 (num 8 v) (by rw [num_length]; exact hn1.out) ((show (num 8 v).length ≤ 140737488355328 by rw [num_length]; omega)) (hown1.sl (num_lt 8 v) (by have := (show (num 8 v).length ≤ 140737488355328 by rw [num_length]; omega); omega)) (fresh_ap' h hnew1) h1 HLID.out).mono ?_
  rintro e w2 ⟨rfl, hst⟩
  go_wp2
  go_end0
  exact ⟨rfl, wstep_after hk1 hst⟩

set_option maxRecDepth 10000 in
theorem refWText_any (w : World) (a : Nat) (o : Option Addr) (c L : Nat) (bs : List Nat) (e0 : Nat) (s : ByteArray) (hs : s.size ≤ 140737488351232) (h : IsW 85 w a o c L bs e0) (hlid : (lay L (bs, e0) (txt (nats s))).1.length ≤ 140737488355328) :
    Calls Try.prog 53 #[.pointer (some ⟨a, 0, none⟩), .string s] w fun e w' => e = .returned (.tuple #[]) ∧ WStep 85 w a o L (lay L (bs, e0) (txt (nats s))) w' := by
  have HLID : Hid ((lay L (bs, e0) (txt (nats s))).1.length ≤ 140737488355328) := hlid
  clear hlid
  go_enter Try.func53, Try.ntmps53
  go_wp2_with fail
  refine (refText_any w s hs).mono ?_
  rintro e w1 ⟨o1, c1, n1, rfl, hn1, hown1, hnew1, hk1⟩
  have h1 := h.keeps hk1 (fun _ _ h => h)
  go_wp2_with fail
  refine (refLay_any w1 a o c L bs e0 o1 n1 c1 (txt (nats s)) (by exact hn1.out) ((show (txt (nats s)).length ≤ 140737488355328 by rw [txt_length, nats_length]; omega)) (hown1.sl (txt_lt s) (by have := (show (txt (nats s)).length ≤ 140737488355328 by rw [txt_length, nats_length]; omega); omega)) (fresh_ap' h hnew1) h1 HLID.out).mono ?_
  rintro e w2 ⟨rfl, hst⟩
  go_wp2
  go_end0
  exact ⟨rfl, wstep_after hk1 hst⟩

theorem body_lt (ss : List ByteArray) : ∀ c ∈ txtsBody (natss ss), c < 256 := by
  induction ss with
  | nil => intro c hc; cases hc
  | cons s ss ih =>
    intro c hc
    simp only [natss, List.map_cons, txtsBody, List.mem_append] at hc
    rcases hc with h | h
    · exact txt_lt s c h
    · exact ih c h
theorem txts_lt (ss : List ByteArray) : ∀ c ∈ txts (natss ss), c < 256 := app_lt (num_lt _ _) (body_lt ss)

set_option maxRecDepth 10000 in
theorem refWTexts_any (w : World) (a : Nat) (o : Option Addr) (c L : Nat) (bs : List Nat) (e0 : Nat) (ol : Option Addr) (n cl : Nat) (ss : List ByteArray) (hn : n = ss.length) (hrow : RowS w ol ss) (hs : ∀ s ∈ ss, s.size ≤ 140737488351232) (hln : ss.length ≤ 140737488351232) (hall : 4 + bodyLen (natss ss) ≤ 140737488355328) (h : IsW 85 w a o c L bs e0) (hlid : (lay L (bs, e0) (txts (natss ss))).1.length ≤ 140737488355328) :
    Calls Try.prog 54 #[.pointer (some ⟨a, 0, none⟩), .slice ol n cl] w fun e w' => e = .returned (.tuple #[]) ∧ WStep 85 w a o L (lay L (bs, e0) (txts (natss ss))) w' := by
  have HLID : Hid ((lay L (bs, e0) (txts (natss ss))).1.length ≤ 140737488355328) := hlid
  clear hlid
  have HN : Hid (n = ss.length) := hn
  clear hn
  go_enter Try.func54, Try.ntmps54
  go_wp2_with fail
  refine (refTexts_any w ol n cl ss HN.out hrow hs hln hall).mono ?_
  rintro e w1 ⟨o1, c1, n1, rfl, hn1, hown1, hnew1, hk1⟩
  have h1 := h.keeps hk1 (fun _ _ h => h)
  go_wp2_with fail
  refine (refLay_any w1 a o c L bs e0 o1 n1 c1 (txts (natss ss)) (by exact hn1.out) ((show (txts (natss ss)).length ≤ 140737488355328 by rw [txts_length]; exact hall)) (hown1.sl (txts_lt ss) (by have := (show (txts (natss ss)).length ≤ 140737488355328 by rw [txts_length]; exact hall); omega)) (fresh_ap' h hnew1) h1 HLID.out).mono ?_
  rintro e w2 ⟨rfl, hst⟩
  go_wp2
  go_end0
  exact ⟨rfl, wstep_after hk1 hst⟩

theorem refLen_any (w : World) (a : Nat) (o : Option Addr) (c L : Nat) (bs : List Nat) (e0 : Nat) (h : IsW 85 w a o c L bs e0) :
    Calls Try.prog 31 #[.pointer (some ⟨a, 0, none⟩)] w fun e w' => e = .returned (.int .i64 (bs.length : Nat)) ∧ w' = w := by
  have c1 : w.cell? ⟨a, 1, none⟩ = some (.slice o bs.length c) := cell_of_blk h.blk 1
  go_enter Try.func31, Try.ntmps31
  go_wp2
  go_ret
  exact ⟨rfl, rfl⟩

set_option maxRecDepth 10000 in
theorem refOut_any (w : World) (a : Nat) (o : Option Addr) (c L : Nat) (bs : List Nat) (e0 : Nat) (h : IsW 85 w a o c L bs e0) :
    Calls Try.prog 55 #[.pointer (some ⟨a, 0, none⟩)] w (OutTo w bs e0) := by
  have c1 : w.cell? ⟨a, 1, none⟩ = some (.slice o bs.length c) := cell_of_blk h.blk 1
  have c2 : w.cell? ⟨a, 2, none⟩ = some (.int .i64 (e0 : Nat)) := cell_of_blk h.blk 2
  by_cases he : e0 = 0
  · subst he
    have hlid := h.lid
    have hsl := h.row.sl h.byt (by omega)
    go_enter Try.func55, Try.ntmps55
    go_wp2_with (at_builtin; go_must (refine wpList_app rfl _ _ rfl none 0 0 [] (by rfl) rfl (owns_nil w) o _ c bs (by rfl) rfl hsl.nil hsl.row (by omega) ?_); intro o3 c3 w3 hown3 hfr3 hk3)
    go_ret2
    refine ⟨hk3.mono (fun k ⟨x, h, _⟩ => by cases h), .inr ⟨rfl, o3, c3, ?_, by simpa using hown3, fun k hk => ?_⟩⟩
    · simp
    · rcases hfr3.in k hk with ⟨x, h, _⟩ | h'
      · cases h
      · exact h'
  · have he' : ¬ ((e0 : Nat) : Int) = 0 := by omega
    go_enter Try.func55, Try.ntmps55
    go_wp2
    go_quiet (fail)
    go_wp2
    go_ret2
    exact ⟨keeps_drewN _ _ _, .inl ⟨he, rfl⟩⟩
end Go.Proofs.Ytclheacjhkoocaa
