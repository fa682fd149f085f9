/- The program's Encode. -/
import Derived.Test.YtjklpcamlppegaaGreatP2
import Derived.Laws.MakeOwn
namespace Go.Proofs.YtjklpcamlppegaaGreat
open Go.RowKit Go.Sort Orl Pk
set_option linter.unusedVariables false
set_option linter.unusedSimpArgs false

theorem Fresh.new {w0 w w' : World} {oa o' : Option Addr} (h : Fresh w oa o') (hk : Keeps (inO oa) w w') (hn : New w0 oa) (hk0 : Keeps no w0 w) : New w0 o' ∧ Keeps no w0 w' := by
  refine ⟨?_, hk0.then hk (fun i hi => .inr (hn i hi))⟩
  rcases h with rfl | ⟨g, rfl, hg⟩
  · exact hn
  · rintro k ⟨x, e, rfl⟩; cases e; exact Nat.le_trans hk0.size hg
theorem owns_byt {w : World} {o : Option Addr} {c : Nat} {bs : List Nat} (h : Owns w o c bs) : (o = none → c = 0) ∧ bs.length ≤ c := ⟨h.cap.2, h.cap.1⟩
theorem bhd_cells (n : Nat) (h : (n : Int) ≤ 1048576) : #[Value.int .u8 ((n : Int) / 16777216), .int .u8 ((n : Int) / 65536), .int .u8 (IntKind.u8.wrap ((n : Int) / 256)), .int .u8 (IntKind.u8.wrap (n : Int))] = (vals (num 4 n)).toArray := by
  rw [num4 n (by omega)]
  simp only [vals, List.map_cons, List.map_nil]
  rw [IntKind.wrap_u8, IntKind.wrap_u8]
  have e0 : (n : Int) / 16777216 = ((n / 16777216 : Nat) : Int) := by omega
  have e1 : (n : Int) / 65536 = ((n / 65536 % 256 : Nat) : Int) := by omega
  have e2 : (n : Int) / 256 % 256 = ((n / 256 % 256 : Nat) : Int) := by omega
  have e3 : (n : Int) % 256 = ((n % 256 : Nat) : Int) := by omega
  rw [e0, e1, e2, e3]
theorem bmake0 (w : World) (n : Nat) (hb : n ≤ 140737488355328) : ∃ w', (Instr.makeSlice 38 (.int .i64 0) (.int .i64 (n : Int))).run Tryz.prog w = .ok (.slice (some ⟨w.heap.size, 0, none⟩) 0 n) w' ∧ Owns w' (some ⟨w.heap.size, 0, none⟩) n [] ∧ Keeps no w w' := by
  obtain ⟨i0, hi, hz0, hz1, hz2⟩ := info_parts info5
  obtain ⟨w', h1, h2, h3⟩ := run_make_own (P := Tryz.prog) w 0 38 5 i0 _ 1 Tryz.underlying38 hi hz0 hz1 .i64 .i64 n (by rw [hz2]; omega) (by unfold maxLen; omega) (Nat.zero_le _)
  refine ⟨w', h1, h2, (Keeps.refl _ _).grown h3 (fun k hk => by cases hk)⟩
set_option maxRecDepth 10000 in
theorem build_any (w : World) (a : Option Addr) (n c : Nat) (bs : List Nat) (hn : n = bs.length) (hs : Owns w a c bs) (hby : ∀ c ∈ bs, c < 256) (h : (n : Int) ≤ 1048576) :
    Calls Tryz.prog 31 #[.slice a n c] w fun e w' => ∃ o m c', e = .returned (.tuple #[.slice o m c', .int .i64 0]) ∧ Hid (m = 4 + n) ∧ Owns w' o c' (num 4 n ++ bs) ∧ New w o ∧ Keeps no w w' := by
  obtain ⟨w1, hmk, hO1, hK1⟩ := bmake0 w (4 + n) (by omega)
  have HN : Hid (n = bs.length) := hn
  have HO1 : Hid (Owns w1 (some ⟨w.heap.size, 0, none⟩) (4 + n) []) := hO1
  have HK1 : Hid (Keeps no w w1) := hK1
  have HS : Hid (Owns w a c bs) := hs
  have HBY : Hid (∀ c ∈ bs, c < 256) := hby
  have HC := bhd_cells n h
  have HB : Hid (n ≤ 1048576) := by show n ≤ 1048576; omega
  rw [show (((4 + n : Nat) : Nat) : Int) = 4 + (n : Int) by omega] at hmk
  obtain ⟨z2, hz2⟩ : ∃ z, IntKind.u8.wrap ((n : Int) / 256) = z := ⟨_, rfl⟩
  obtain ⟨z3, hz3⟩ : ∃ z, IntKind.u8.wrap (n : Int) = z := ⟨_, rfl⟩
  rw [hz2, hz3] at HC
  have hrow := row_lit w1 (num 4 n) (num_lt 4 n) (by rw [num_length]; omega)
  rw [← HC] at hrow
  have HR : Hid (BRow (w1.alloc (.cells #[Value.int .u8 ((n : Int) / 16777216), .int .u8 ((n : Int) / 65536), .int .u8 z2, .int .u8 z3] 5)) (some ⟨w1.heap.size, 0, none⟩) (num 4 n)) := hrow
  clear hn hO1 hK1 hs HC hrow hby
  go_enter Tryz.func31, Tryz.ntmps31
  go_wp2_with (at_builtin; first | (refine wpList_appB rfl _ _ rfl _ 0 _ [] rfl rfl (HO1.out.alloc _) _ _ _ (num 4 n) rfl rfl (fun e => by cases e) HR.out (by omega) ?_; intro o2 c2 w2 ho2 hfr2 hk2; have HO2 : Hid (Owns w2 o2 c2 (num 4 n)) := ho2; have HK2 : Hid (New w o2 ∧ Keeps no w w2) := hfr2.new hk2 (new_fresh w _ (Nat.le_refl _) _) (HK1.out.alloc _); clear ho2 hfr2 hk2) | (refine wpList_appB rfl _ _ rfl o2 _ c2 (num 4 n) rfl rfl HO2.out _ _ _ bs rfl HN.out HS.out.cap.2 ((HS.out.row HBY.out (by have := HB.out; have := HN.out; omega)).keeps HK2.out.2 (fun _ _ h => h)) (by have := HB.out; have := HN.out; omega) ?_; intro o3 c3 w3 ho3 hfr3 hk3))
  go_ret2
  have := hfr3.new hk3 HK2.out.1 HK2.out.2
  exact ⟨_, _, _, rfl, (by first | rfl | (show _ = _; omega)), ho3, this.1, this.2⟩
theorem layP_lt (l : List Pr) : ∀ c ∈ layP l, c < 256 := by
  intro c hc
  unfold layP at hc
  obtain ⟨p, _, hp⟩ := List.mem_flatMap.1 hc
  exact app_lt (txt_lt _) (txt_lt _) c hp
theorem layW_lt (l : List Wn) : ∀ c ∈ layW l, c < 256 := by
  intro c hc
  unfold layW at hc
  obtain ⟨p, _, hp⟩ := List.mem_flatMap.1 hc
  exact app_lt (txt_lt _) (num_lt _ _) c hp
theorem btxts_body_lt : ∀ (ss : List Tx), ∀ c ∈ txtsBody (natss ss), c < 256
  | [], c, hc => by simp [natss, txtsBody] at hc
  | s :: l, c, hc => by
    have hc' : c ∈ txt (nats s) ++ txtsBody (natss l) := hc
    exact app_lt (txt_lt s) (btxts_body_lt l) c hc'
theorem btxts_lt (ss : List Tx) : ∀ c ∈ txts (natss ss), c < 256 := app_lt (num_lt _ _) (btxts_body_lt ss)
theorem layV_lt (v : Ver) : ∀ c ∈ layV v, c < 256 := by
  unfold layV
  refine app_lt (txt_lt _) (app_lt (num_lt _ _) ?_)
  split
  · intro c hc; cases hc
  · exact app_lt (txt_lt _) (btxts_lt _)
theorem layF_lt (m : Msg) : ∀ c ∈ layF m, c < 256 := by
  unfold layF
  repeat' split
  · exact app_lt (num_lt _ _) (app_lt (btxts_lt _) (app_lt (num_lt _ _) (layP_lt _)))
  · exact btxts_lt _
  · exact app_lt (num_lt _ _) (layW_lt _)
  · exact layV_lt _
  · exact num_lt _ _
theorem body_byt (m : Msg) : ∀ c ∈ body m, c < 256 := app_lt (num_lt _ _) (app_lt (num_lt _ _) (app_lt (num_lt _ _) (layF_lt m)))
end Go.Proofs.YtjklpcamlppegaaGreat
