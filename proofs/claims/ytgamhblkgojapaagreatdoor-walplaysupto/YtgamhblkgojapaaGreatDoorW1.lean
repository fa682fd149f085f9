import Derived.Test.YtgamhblkgojapaaGreatDoorPm
namespace Go.Proofs.YtgamhblkgojapaaGreatDoor
open Go.RowKit
open Pk
set_option linter.unusedVariables false
set_option linter.unusedSimpArgs false

theorem newWriter_any (l : Int) (w : World) (h1 : -9223372036854775808 ≤ l) (h2 : l ≤ 9223372036854775807) :
    Calls Tryz.prog 62 #[.int .i64 l] w fun e w' => e = .returned (.pointer (some ⟨w.heap.size, 0, none⟩)) ∧ IsW 132 w' w.heap.size none 0 l.toNat [] 0 ∧ Keeps (fun _ => False) w w' := by
  go_enter Tryz.func62, Tryz.ntmps62
  go_wp2
  go_ret
  refine ⟨rfl, ⟨?_, owns_nil _, fun ⟨x, h, _⟩ => (by cases h), Nat.zero_le _, by omega, (fun _ h => by cases h), Nat.zero_le _, Nat.zero_le _⟩, (Keeps.refl _ _).alloc _⟩
  rw [blk_new, show (max l 0) = ((l.toNat : Nat) : Int) by omega]
  rfl

theorem room_any (w : World) (a : Nat) (o : Option Addr) (c L : Nat) (bs : List Nat) (e0 : Nat) (h : IsW 132 w a o c L bs e0) :
    Calls Tryz.prog 105 #[.pointer (some ⟨a, 0, none⟩)] w fun e w' => e = .returned (.int .i64 ((L - bs.length : Nat) : Int)) ∧ ∃ m, w' = w.drewN m := by
  have c0 : w.cell? ⟨a, 0, none⟩ = some (.int .i64 (L : Nat)) := cell_of_blk h.blk 0
  have c1 : w.cell? ⟨a, 1, none⟩ = some (.slice o bs.length c) := cell_of_blk h.blk 1
  have hfit := h.fit
  have hlim := h.lim
  clear h
  go_enter Tryz.func105, Tryz.ntmps105
  go_wp2
  go_quiet (fail)
  go_wp2
  go_ret
  refine ⟨?_, ⟨_, rfl⟩⟩
  show Ending.returned (.int .i64 _) = _
  congr 2
  omega

set_option maxRecDepth 100000 in
theorem clone_some (w : World) (ad : Addr) (bs : List Nat) (n cap : Nat) (hn : n = bs.length) (hr : BRow w (some ad) bs) (hl : n ≤ 140737488355328) :
    Calls Tryz.prog 57 #[.slice (some ad) n cap] w fun e w' => ∃ g c, e = .returned (.slice (some ⟨g, 0, none⟩) n c) ∧ w.heap.size ≤ g ∧ Owns w' (some ⟨g, 0, none⟩) c bs ∧ Keeps (fun _ => False) w w' := by
  subst hn
  have hk : Keeps (fun _ => False) w (w.alloc (.cells #[] 5)) := (Keeps.refl _ _).alloc _
  have hnil := fun w => Lib.run_eql_slice_nil (P := Tryz.prog) w 42 5 (some ad) bs.length cap 0 0 Tryz.underlying42
  go_enter Tryz.func57, Tryz.ntmps57
  go_wp2_with (at_builtin; go_must (refine wpList_appB rfl _ _ rfl (some ⟨w.heap.size, 0, none⟩) 0 0 [] (by rfl) rfl (owns_new w) (some ad) _ cap bs (by rfl) rfl (by simp) (hr.keeps hk (fun _ _ h => h)) (by omega) ?_); intro o' c' w' hown hfr hkk)
  go_ret
  rw [List.nil_append] at hown
  have hb : ∃ g, o' = some ⟨g, 0, none⟩ ∧ w.heap.size ≤ g := by
    rcases hfr with e | ⟨g, e, hg⟩
    · exact ⟨_, e, Nat.le_refl _⟩
    · exact ⟨g, e, by simp at hg; omega⟩
  obtain ⟨g, rfl, hg⟩ := hb
  refine ⟨g, c', ?_, hg, hown, hk.then hkk ?_⟩
  · simp
  · rintro i ⟨x, h, rfl⟩
    cases h; right; simp

set_option maxRecDepth 100000 in
theorem clone_none (w : World) :
    Calls Tryz.prog 57 #[.slice none 0 0] w fun e w' => e = .returned (.slice none 0 0) ∧ w' = w := by
  have hnil := fun w => Lib.run_eql_slice_nil (P := Tryz.prog) w 42 5 none 0 0 0 0 Tryz.underlying42
  go_enter Tryz.func57, Tryz.ntmps57
  go_wp2
  go_ret
  exact ⟨rfl, rfl⟩

def AppTo (w : World) (o : Option Addr) (bs' : List Nat) (e : Ending) (w' : World) : Prop :=
  ∃ o' c' n', e = .returned (.slice o' n' c') ∧ Hid (n' = bs'.length) ∧ Owns w' o' c' bs' ∧ Fresh w o o' ∧ Keeps (inO o) w w'

theorem Fresh.trans {w w' : World} {o o' o'' : Option Addr} (h : Fresh w o o') (h' : Fresh w' o' o'') (hs : w.heap.size ≤ w'.heap.size) : Fresh w o o'' := by
  rcases h' with rfl | ⟨g, e, hg⟩
  · exact h
  · exact .inr ⟨g, e, by omega⟩
theorem Fresh.old {w w0 : World} {o o' : Option Addr} (h : Fresh w0 o o') (hs : w.heap.size ≤ w0.heap.size) : Fresh w o o' := by
  rcases h with rfl | ⟨g, e, hg⟩
  · exact .inl rfl
  · exact .inr ⟨g, e, by omega⟩
theorem Fresh.in {w : World} {o o' : Option Addr} (h : Fresh w o o') : ∀ k, inO o' k → inO o k ∨ w.heap.size ≤ k := by
  rintro k ⟨x, hx, rfl⟩
  rcases h with rfl | ⟨g, rfl, hg⟩
  · exact .inl ⟨x, hx, rfl⟩
  · cases hx; exact .inr hg

theorem num4 (v : Nat) (hv : v < 4294967296) : num 4 v = [v / 16777216, v / 65536 % 256, v / 256 % 256, v % 256] := by
  simp only [num, List.nil_append, List.cons_append, Nat.div_div_eq_div_mul]
  simp
  omega

theorem row_lit (w : World) (bs : List Nat) (h : ∀ c ∈ bs, c < 256) (hl : bs.length ≤ 9223372036854775807) : BRow (w.alloc (.cells (vals bs).toArray 5)) (some ⟨w.heap.size, 0, none⟩) bs := by
  refine ⟨h, hl, .inr ⟨_, _, rfl, fun j hj => ?_⟩⟩
  rw [cell_of_blk (blk_new w _)]
  simp [vals, hj]

theorem appendU32_any (w : World) (o : Option Addr) (n c : Nat) (bs : List Nat) (v : Nat) (hv : v < 4294967296) (hn : n = bs.length) (hown : Owns w o c bs) (hl : n + 4 ≤ 140737488355328) :
    Calls Tryz.prog 102 #[.slice o n c, .int .u32 (v : Nat)] w (AppTo w o (bs ++ num 4 v)) := by
  subst hn
  have hrow := row_lit w (num 4 v) (num_lt 4 v) (by rw [num_length]; omega)
  have e4 : (vals (num 4 v)).toArray = #[.int .u8 ((v : Int) / 16777216), .int .u8 ((v : Int) / 65536 % 256), .int .u8 ((v : Int) / 256 % 256), .int .u8 ((v : Int) % 256)] := by
    rw [num4 v hv]; simp [vals]
  rw [e4] at hrow
  clear e4
  go_enter Tryz.func102, Tryz.ntmps102
  go_wp2_with (at_builtin; go_must (refine wpList_appB rfl _ _ rfl o _ c bs (by rfl) rfl (hown.alloc _) (some ⟨w.heap.size, 0, none⟩) 4 4 (num 4 v) (by rfl) (num_length 4 v).symm (by simp) hrow (by omega) ?_); intro o' c' w' hown hfr hkk)
  go_ret
  exact ⟨o', c', _, rfl, (by show _ = _; simp [num_length]), hown, hfr.old (by simp), ((Keeps.refl _ _).alloc _).then hkk (fun i h => .inl h)⟩

theorem num4_mod (v : Nat) : num 4 (v % 4294967296) = num 4 v := num_mod 4 v
theorem appendText_any (w : World) (o : Option Addr) (n c : Nat) (bs : List Nat) (s : ByteArray) (hn : n = bs.length) (hown : Owns w o c bs) (hl : n + 4 + s.size ≤ 140737488355328) :
    Calls Tryz.prog 103 #[.slice o n c, .string s] w (AppTo w o (bs ++ txt (nats s))) := by
  subst hn
  go_enter Tryz.func103, Tryz.ntmps103
  go_wp2_with fail
  rw [show ((s.size : Int) % 4294967296) = ((s.size % 4294967296 : Nat) : Int) by omega]
  refine (appendU32_any w o _ c bs (s.size % 4294967296) (by omega) rfl hown (by omega)).mono ?_
  rintro e w1 ⟨o1, c1, n1, rfl, hn1, hown1, hfr1, hk1⟩
  rw [num4_mod] at hown1 hn1
  have hn2 : Hid (n1 = bs.length + 4) := by show _ = _; rw [hn1.out, List.length_append, num_length]
  generalize hX : bs ++ num 4 s.size = X at hown1 hn1
  have HX : Hid (bs ++ num 4 s.size = X) := hX
  clear hX
  go_wp2_with (at_builtin; go_must (refine wpList_appS rfl _ _ rfl o1 _ c1 X (by rfl) hn1.out hown1 s (by rfl) (by have := hn2.out; omega) ?_); intro o' c' w' hown2 hfr2 hk2)
  go_ret
  have e2 : X ++ nats s = bs ++ txt (nats s) := by rw [← HX.out, txt, nats_length, List.append_assoc]
  rw [e2] at hown2
  refine ⟨o', c', _, rfl, ?_, hown2, hfr1.trans hfr2 hk1.size, hk1.then hk2 hfr1.in⟩
  have := hn2.out
  show _ = _
  rw [List.length_append, txt_length, nats_length]
  omega

theorem claims_any (w : World) (a : Nat) (o : Option Addr) (c L : Nat) (bs : List Nat) (e0 : Nat) (z : Int) (hz : 0 ≤ z) (hz2 : z ≤ 9223372036854775807) (h : IsW 132 w a o c L bs e0) :
    Calls Tryz.prog 101 #[.pointer (some ⟨a, 0, none⟩), .int .i64 z] w fun e w' =>
      (e0 = 0 ∧ bs.length + z.toNat ≤ L ∧ e = .returned (.bool true) ∧ ∃ m, w' = w.drewN m) ∨
      (e0 = 0 ∧ L < bs.length + z.toNat ∧ e = .returned (.bool false) ∧ IsW 132 w' a o c L bs 3 ∧ Keeps (fun k => k = a) w w') ∨
      (e0 ≠ 0 ∧ e = .returned (.bool false) ∧ w' = w) := by
  have hfit := h.fit
  have c2 : w.cell? ⟨a, 2, none⟩ = some (.int .i64 (e0 : Nat)) := cell_of_blk h.blk 2
  have f2 : w.frozen? ⟨a, 2, none⟩ = false := frozen_of_blk h.blk 2
  by_cases he : e0 = 0
  · subst he
    go_enter Tryz.func101, Tryz.ntmps101
    go_wp2_with fail
    refine (room_any w a o c L bs 0 h).mono ?_
    rintro e w1 ⟨rfl, m, rfl⟩
    by_cases hr : L - bs.length < z
    · go_wp2
      go_ret
      have hb : (w.drewN m).heap[a]? = w.heap[a]? := rfl
      have hkk : Keeps (fun k => k = a) w ((w.drewN m).setCell ⟨a, 2, none⟩ (.int .i64 3)) := (keeps_drewN _ w m).trans (keeps_set _ _ _ _)
      refine .inr (.inl ⟨by trivial, by omega, rfl, ⟨?_, ?_, h.ap, h.fit, h.lim, h.byt, h.lid, by omega⟩, hkk⟩)
      · rw [blk_set (hb.trans h.blk)]; rfl
      · exact h.row.keeps hkk (fun k hk e => h.ap (e ▸ hk))
    · go_wp2
      go_ret
      exact .inl ⟨by trivial, by omega, rfl, m, rfl⟩
  · have he' : ¬ ((e0 : Nat) : Int) = 0 := by omega
    go_enter Tryz.func101, Tryz.ntmps101
    go_wp2
    go_ret
    exact .inr (.inr ⟨he, by simp [he', he], rfl⟩)

theorem lay_err (L : Nat) (bs news : List Nat) (e : Nat) (h : e ≠ 0) : lay L (bs, e) news = (bs, e) := by simp [lay, h]
theorem lay_long (L : Nat) (bs news : List Nat) (h : L < bs.length + news.length) : lay L (bs, 0) news = (bs, 3) := by simp [lay, h]
theorem lay_fits (L : Nat) (bs news : List Nat) (h : bs.length + news.length ≤ L) : lay L (bs, 0) news = (bs ++ news, 0) := by simp [lay, Nat.not_lt.mpr h]

/-- how the bytes that a call appended are stored into the writer -/
theorem IsW.put {t : Nat} {w w1 : World} {a : Nat} {o o1 : Option Addr} {c c1 L : Nat} {bs bs1 : List Nat} {e : Nat} (h : IsW t w a o c L bs e) (hk : Keeps (inO o) w w1) (hown : Owns w1 o1 c1 bs1) (hfr : Fresh w o o1) (hfit : bs1.length ≤ L) (hby : ∀ c ∈ bs1, c < 256) (hlid : bs1.length ≤ 140737488355328) (n1 : Nat) (hn1 : n1 = bs1.length) :
    IsW t (w1.setCell ⟨a, 1, none⟩ (.slice o1 n1 c1)) a o1 c1 L bs1 e ∧ Keeps (footW a o) w (w1.setCell ⟨a, 1, none⟩ (.slice o1 n1 c1)) := by
  subst hn1
  have hap : ¬ inO o1 a := by
    intro hin
    rcases hfr.in a hin with h' | h'
    · exact h.ap h'
    · have := lt_of_block h.blk; omega
  refine ⟨⟨?_, ?_, hap, hfit, h.lim, hby, hlid, h.er⟩, (hk.mono (fun i hi => .inr hi)).setCell (.inl (.inl rfl)) _⟩
  · rw [blk_set (hk.at h.blk h.ap)]; rfl
  · have hkk : Keeps (fun k => k = a) w1 (w1.setCell ⟨a, 1, none⟩ (.slice o1 bs1.length c1)) := keeps_set _ _ _ _
    exact hown.keeps hkk (fun k hk e => hap (e ▸ hk))

theorem app_lt {a b : List Nat} (h1 : ∀ c ∈ a, c < 256) (h2 : ∀ c ∈ b, c < 256) : ∀ c ∈ a ++ b, c < 256 := by
  intro c hc; rcases List.mem_append.mp hc with h | h; exact h1 c h; exact h2 c h

theorem lay_lid {L : Nat} {bs news : List Nat} {e0 : Nat} (h : (lay L (bs, e0) news).1.length ≤ 140737488355328) (he : e0 = 0) (hf : bs.length + news.length ≤ L) : bs.length + news.length ≤ 140737488355328 := by
  subst he; rw [lay_fits _ _ _ hf] at h; simpa using h

set_option maxRecDepth 10000 in
theorem wU32_any (w : World) (a : Nat) (o : Option Addr) (c L : Nat) (bs : List Nat) (e0 : Nat) (v : Nat) (hv : v < 4294967296) (h : IsW 132 w a o c L bs e0) (hlid : (lay L (bs, e0) (num 4 v)).1.length ≤ 140737488355328) :
    Calls Tryz.prog 82 #[.pointer (some ⟨a, 0, none⟩), .int .u32 (v : Nat)] w fun e w' => e = .returned (.tuple #[]) ∧ WStep 132 w a o L (lay L (bs, e0) (num 4 v)) w' := by
  have HLID : Hid ((lay L (bs, e0) (num 4 v)).1.length ≤ 140737488355328) := hlid
  clear hlid
  have hlen : Hid ((num 4 v).length = 4) := num_length 4 v
  go_enter Tryz.func82, Tryz.ntmps82
  go_wp2_with fail
  refine (claims_any w a o c L bs e0 4 (by omega) (by omega) h).mono ?_
  rintro e w1 (⟨rfl, hfit, rfl, m, rfl⟩ | ⟨rfl, hlong, rfl, hW, hk⟩ | ⟨he, rfl, rfl⟩)
  · have c1 : w.cell? ⟨a, 1, none⟩ = some (.slice o bs.length c) := cell_of_blk h.blk 1
    have hh : IsW 132 (w.drewN m) a o c L bs 0 := h.keeps (keeps_drewN (fun _ => False) w m) (fun _ _ h => h)
    have hfit' : Hid (bs.length + (num 4 v).length ≤ L) := by show _ ≤ _; rw [hlen.out]; omega
    have hb : Hid (bs.length + (num 4 v).length ≤ 140737488355328) := lay_lid HLID.out rfl hfit'.out
    go_wp2_with fail
    refine (appendU32_any (w.drewN m) o _ c bs v hv rfl hh.row (by have := hb.out; rw [hlen.out] at this; exact this)).mono ?_
    rintro e w1 ⟨o1, c1', n1, rfl, hn1, hown1, hfr1, hk1⟩
    have f1 : w1.frozen? ⟨a, 1, none⟩ = false := frozen_of_blk (hk1.at hh.blk hh.ap) 1
    obtain ⟨v1, c1⟩ : ∃ v, w1.cell? ⟨a, 1, none⟩ = some v := ⟨_, cell_of_blk (hk1.at hh.blk hh.ap) 1⟩
    obtain ⟨hW, hK⟩ := hh.put hk1 hown1 hfr1 (by rw [List.length_append]; exact hfit'.out) (app_lt h.byt (num_lt 4 v)) (by rw [List.length_append]; exact hb.out) n1 hn1.out
    have hK' := (keeps_drewN (footW a o) w m).trans hK
    go_wp2
    go_end0
    rw [lay_fits _ _ _ hfit'.out]
    exact ⟨rfl, o1, c1', hW, hfr1, hK'⟩
  · go_wp2
    go_end0
    rw [lay_long _ _ _ (by rw [hlen.out]; omega)]
    exact ⟨rfl, o, c, hW, .inl rfl, hk.mono (fun i hi => .inl hi)⟩
  · go_wp2
    go_end0
    rw [lay_err _ _ _ _ he]
    exact ⟨rfl, o, c, h, .inl rfl, Keeps.refl _ _⟩

set_option maxRecDepth 10000 in
theorem wText_any (w : World) (a : Nat) (o : Option Addr) (c L : Nat) (bs : List Nat) (e0 : Nat) (s : ByteArray) (hs : s.size ≤ 140737488351232) (h : IsW 132 w a o c L bs e0) (hlid : (lay L (bs, e0) (txt (nats s))).1.length ≤ 140737488355328) :
    Calls Tryz.prog 83 #[.pointer (some ⟨a, 0, none⟩), .string s] w fun e w' => e = .returned (.tuple #[]) ∧ WStep 132 w a o L (lay L (bs, e0) (txt (nats s))) w' := by
  have HLID : Hid ((lay L (bs, e0) (txt (nats s))).1.length ≤ 140737488355328) := hlid
  clear hlid
  have hlen : Hid ((txt (nats s)).length = 4 + s.size) := by show _ = _; rw [txt_length, nats_length]
  go_enter Tryz.func83, Tryz.ntmps83
  go_wp2_with fail
  refine (claims_any w a o c L bs e0 (4 + (s.size : Int)) (by omega) (by omega) h).mono ?_
  rintro e w1 (⟨rfl, hfit, rfl, m, rfl⟩ | ⟨rfl, hlong, rfl, hW, hk⟩ | ⟨he, rfl, rfl⟩)
  · have c1 : w.cell? ⟨a, 1, none⟩ = some (.slice o bs.length c) := cell_of_blk h.blk 1
    have hh : IsW 132 (w.drewN m) a o c L bs 0 := h.keeps (keeps_drewN (fun _ => False) w m) (fun _ _ h => h)
    have hfit' : Hid (bs.length + (txt (nats s)).length ≤ L) := by show _ ≤ _; rw [hlen.out]; omega
    have hb : Hid (bs.length + (txt (nats s)).length ≤ 140737488355328) := lay_lid HLID.out rfl hfit'.out
    go_wp2_with fail
    refine (appendText_any (w.drewN m) o _ c bs s rfl hh.row (by have := hb.out; rw [hlen.out] at this; omega)).mono ?_
    rintro e w1 ⟨o1, c1', n1, rfl, hn1, hown1, hfr1, hk1⟩
    have f1 : w1.frozen? ⟨a, 1, none⟩ = false := frozen_of_blk (hk1.at hh.blk hh.ap) 1
    obtain ⟨v1, c1⟩ : ∃ v, w1.cell? ⟨a, 1, none⟩ = some v := ⟨_, cell_of_blk (hk1.at hh.blk hh.ap) 1⟩
    obtain ⟨hW, hK⟩ := hh.put hk1 hown1 hfr1 (by rw [List.length_append]; exact hfit'.out) (app_lt h.byt (app_lt (num_lt _ _) (nats_lt s))) (by rw [List.length_append]; exact hb.out) n1 hn1.out
    have hK' := (keeps_drewN (footW a o) w m).trans hK
    go_wp2
    go_end0
    rw [lay_fits _ _ _ hfit'.out]
    exact ⟨rfl, o1, c1', hW, hfr1, hK'⟩
  · go_wp2
    go_end0
    rw [lay_long _ _ _ (by rw [hlen.out]; omega)]
    exact ⟨rfl, o, c, hW, .inl rfl, hk.mono (fun i hi => .inl hi)⟩
  · go_wp2
    go_end0
    rw [lay_err _ _ _ _ he]
    exact ⟨rfl, o, c, h, .inl rfl, Keeps.refl _ _⟩

theorem num8 (v : Nat) : num 8 v = num 4 (v / 4294967296) ++ num 4 v := by
  simp only [num, List.nil_append, List.cons_append, Nat.div_div_eq_div_mul, List.append_assoc]

set_option maxRecDepth 10000 in
theorem wU64_any (w : World) (a : Nat) (o : Option Addr) (c L : Nat) (bs : List Nat) (e0 : Nat) (v : Nat) (hv : v < 18446744073709551616) (h : IsW 132 w a o c L bs e0) (hlid : (lay L (bs, e0) (num 8 v)).1.length ≤ 140737488355328) :
    Calls Tryz.prog 81 #[.pointer (some ⟨a, 0, none⟩), .int .u64 (v : Nat)] w fun e w' => e = .returned (.tuple #[]) ∧ WStep 132 w a o L (lay L (bs, e0) (num 8 v)) w' := by
  have HLID : Hid ((lay L (bs, e0) (num 8 v)).1.length ≤ 140737488355328) := hlid
  clear hlid
  have hlen : Hid ((num 8 v).length = 8) := num_length 8 v
  go_enter Tryz.func81, Tryz.ntmps81
  go_wp2_with fail
  refine (claims_any w a o c L bs e0 8 (by omega) (by omega) h).mono ?_
  rintro e w1 (⟨rfl, hfit, rfl, m, rfl⟩ | ⟨rfl, hlong, rfl, hW, hk⟩ | ⟨he, rfl, rfl⟩)
  · have c1 : w.cell? ⟨a, 1, none⟩ = some (.slice o bs.length c) := cell_of_blk h.blk 1
    have hh : IsW 132 (w.drewN m) a o c L bs 0 := h.keeps (keeps_drewN (fun _ => False) w m) (fun _ _ h => h)
    have hfit' : Hid (bs.length + (num 8 v).length ≤ L) := by show _ ≤ _; rw [hlen.out]; omega
    have hb : Hid (bs.length + (num 8 v).length ≤ 140737488355328) := lay_lid HLID.out rfl hfit'.out
    have hb8 : bs.length + 8 ≤ 140737488355328 := by have := hb.out; rw [hlen.out] at this; exact this
    go_wp2_with fail
    refine (appendU32_any (w.drewN m) o _ c bs (v / 4294967296) (by omega) rfl hh.row (by omega)).mono ?_
    rintro e w0 ⟨o0, c0', n0, rfl, hn0, hown0, hfr0, hk0⟩
    have hn0' : Hid (n0 = bs.length + 4) := by show _ = _; rw [hn0.out, List.length_append, num_length]
    go_wp2_with fail
    rw [show ((v : Int) % 4294967296) = ((v % 4294967296 : Nat) : Int) by omega]
    refine (appendU32_any w0 o0 _ c0' _ (v % 4294967296) (by omega) hn0.out hown0 (by have := hn0'.out; omega)).mono ?_
    rintro e w1 ⟨o1, c1', n1, rfl, hn1, hown1, hfr1', hk1'⟩
    have e8 : bs ++ num 4 (v / 4294967296) ++ num 4 (v % 4294967296) = bs ++ num 8 v := by
      rw [num4_mod, num8, List.append_assoc]
    rw [e8] at hown1 hn1
    have hk1 := hk0.then hk1' hfr0.in
    have hfr1 := hfr0.trans hfr1' hk0.size
    clear e8
    have f1 : w1.frozen? ⟨a, 1, none⟩ = false := frozen_of_blk (hk1.at hh.blk hh.ap) 1
    obtain ⟨v1, c1⟩ : ∃ v, w1.cell? ⟨a, 1, none⟩ = some v := ⟨_, cell_of_blk (hk1.at hh.blk hh.ap) 1⟩
    obtain ⟨hW, hK⟩ := hh.put hk1 hown1 hfr1 (by rw [List.length_append]; exact hfit'.out) (app_lt h.byt (num_lt 8 v)) (by rw [List.length_append]; exact hb.out) n1 hn1.out
    have hK' := (keeps_drewN (footW a o) w m).trans hK
    clear hk1' hk0 hfr1' hfr0 hown0
    go_wp2
    go_end0
    rw [lay_fits _ _ _ hfit'.out]
    exact ⟨rfl, o1, c1', hW, hfr1, hK'⟩
  · go_wp2
    go_end0
    rw [lay_long _ _ _ (by rw [hlen.out]; omega)]
    exact ⟨rfl, o, c, hW, .inl rfl, hk.mono (fun i hi => .inl hi)⟩
  · go_wp2
    go_end0
    rw [lay_err _ _ _ _ he]
    exact ⟨rfl, o, c, h, .inl rfl, Keeps.refl _ _⟩

set_option maxRecDepth 10000 in
theorem wU8_any (w : World) (a : Nat) (o : Option Addr) (c L : Nat) (bs : List Nat) (e0 : Nat) (v : Nat) (hv : v < 256) (h : IsW 132 w a o c L bs e0) (hlid : (lay L (bs, e0) (num 1 v)).1.length ≤ 140737488355328) :
    Calls Tryz.prog 80 #[.pointer (some ⟨a, 0, none⟩), .int .u8 (v : Nat)] w fun e w' => e = .returned (.tuple #[]) ∧ WStep 132 w a o L (lay L (bs, e0) (num 1 v)) w' := by
  have HLID : Hid ((lay L (bs, e0) (num 1 v)).1.length ≤ 140737488355328) := hlid
  clear hlid
  have hlen : Hid ((num 1 v).length = 1) := num_length 1 v
  go_enter Tryz.func80, Tryz.ntmps80
  go_wp2_with fail
  refine (claims_any w a o c L bs e0 1 (by omega) (by omega) h).mono ?_
  rintro e w1 (⟨rfl, hfit, rfl, m, rfl⟩ | ⟨rfl, hlong, rfl, hW, hk⟩ | ⟨he, rfl, rfl⟩)
  · have c1 : w.cell? ⟨a, 1, none⟩ = some (.slice o bs.length c) := cell_of_blk h.blk 1
    have hh : IsW 132 (w.drewN m) a o c L bs 0 := h.keeps (keeps_drewN (fun _ => False) w m) (fun _ _ h => h)
    have hfit' : Hid (bs.length + (num 1 v).length ≤ L) := by show _ ≤ _; rw [hlen.out]; omega
    have hb : Hid (bs.length + (num 1 v).length ≤ 140737488355328) := lay_lid HLID.out rfl hfit'.out
    have hb8 : bs.length + 1 ≤ 140737488355328 := by have := hb.out; rw [hlen.out] at this; exact this
    have hrow := row_lit (w.drewN m) (num 1 v) (num_lt 1 v) (by rw [num_length]; omega)
    have e1 : (vals (num 1 v)).toArray = #[.int .u8 (v : Nat)] := by simp [num, vals]; omega
    rw [e1] at hrow
    clear e1
    go_wp2_with (at_builtin; go_must (refine wpList_appB rfl _ _ rfl o _ c bs (by rfl) rfl (hh.row.alloc _) (some ⟨w.heap.size, 0, none⟩) 1 1 (num 1 v) (by rfl) (num_length 1 v).symm (by simp) hrow (by omega) ?_); rintro o1 c1' w1 hown1 hfr1' hk1'; have hb1 := hk1'.at (blk_alloc hh.blk _) hh.ap; have f1 : w1.frozen? ⟨a, 1, none⟩ = false := frozen_of_blk hb1 1; obtain ⟨v1, c1⟩ : ∃ v, w1.cell? ⟨a, 1, none⟩ = some v := ⟨_, cell_of_blk hb1 1⟩)
    go_end0
    have hk1 : Keeps (inO o) (w.drewN m) w1 := ((Keeps.refl _ _).alloc _).then hk1' (fun i h => .inl h)
    have hfr1 : Fresh w o o1 := hfr1'.old (by simp)
    obtain ⟨hW, hK⟩ := hh.put hk1 hown1 hfr1 (by rw [List.length_append]; exact hfit'.out) (app_lt h.byt (num_lt 1 v)) (by rw [List.length_append]; exact hb.out) (bs.length + 1) (by rw [List.length_append, num_length])
    have hK' := (keeps_drewN (footW a o) w m).trans hK
    rw [lay_fits _ _ _ hfit'.out]
    exact ⟨rfl, o1, c1', hW, hfr1, hK'⟩
  · go_wp2
    go_end0
    rw [lay_long _ _ _ (by rw [hlen.out]; omega)]
    exact ⟨rfl, o, c, hW, .inl rfl, hk.mono (fun i hi => .inl hi)⟩
  · go_wp2
    go_end0
    rw [lay_err _ _ _ _ he]
    exact ⟨rfl, o, c, h, .inl rfl, Keeps.refl _ _⟩

end Go.Proofs.YtgamhblkgojapaaGreatDoor
