import Derived.Test.YtbkfalaicocopaaDoorMine
import Derived.Test.YtbkfalaicocopaaDoorRef
import Derived.Deep.QuietTactic
import Derived.BigQuiet
import Derived.Deep.RegionWith
import Derived.Deep.Cut
import Derived.Deep.CutRange
namespace Go.Proofs.YtbkfalaicocopaaDoor
open Go.RowKit
open Crc
set_option linter.unusedVariables false

theorem TabIn.drewN {w : World} (h : TabIn w) (n : Nat) : TabIn (w.drewN n) := fun k hk => h k hk
theorem Row.drewN {w : World} {a : Option Addr} {bs : List Nat} (h : Row w a bs) (n : Nat) : Row (w.drewN n) a bs := h.later ⟨rfl, rfl, rfl, Nat.le_refl _, fun _ _ => rfl⟩

theorem mine_more {base g c : Nat} {w w' : World} {v : Value} {bs : List Nat} (h : w'.ownsRow base 5 1 v (bs.length + 2) (vals bs ++ vals [161, 162])) (hv : ¬ v = .slice none 0 0) :
    ∃ g c, v = .slice (some ⟨g, 0, none⟩) (bs.length + 2) c ∧ bs.length + 2 ≤ c ∧ Mine base w' g c (bs ++ [161, 162]) := by
  have e : vals bs ++ vals [161, 162] = vals (bs ++ [161, 162]) := by simp [vals]
  rw [e] at h
  rcases h.2 with ⟨h', _⟩ | ⟨g, cap, cur, rfl, hb, _, hn, _⟩
  · exact absurd h' hv
  · exact ⟨g, cap, rfl, hn, by unfold Mine; rw [List.length_append]; exact h⟩

/-- the six fields, as they lie -/
def Fields (w : World) (g : Nat) (F : Nat → Option Value) : Prop := ∀ j, j < 6 → ∃ v, F j = some v ∧ w.cell? ⟨g, j, none⟩ = some v
theorem Fields.later {w w' : World} {g : Nat} {F : Nat → Option Value} (h : Fields w g F) (hb : Below w.heap.size w w') : Fields w' g F := fun j hj => by
  obtain ⟨v, h1, h2⟩ := h j hj
  exact ⟨v, h1, cell_later hb h2⟩
theorem Fields.at {w : World} {g : Nat} {F : Nat → Option Value} (h : Fields w g F) (j : Nat) (hj : j < 6) {v : Value} (hv : F j = some v) : w.cell? ⟨g, j, none⟩ = some v := by
  obtain ⟨u, h1, h2⟩ := h j hj
  rw [hv] at h1
  cases h1
  exact h2
theorem sum_q (bs : List Nat) (v : Nat) (n : Nat) (hn : n = bs.length) (hv : v = sum bs) (a : Option Addr) (cap : Nat) (w : World) (ht : TabIn w) (hr : Row w a bs) :
    Calls Tryd.prog 10 #[.slice a n cap] w fun e w' => e = .returned (.int .u32 (v : Nat)) ∧ w' = w := by
  subst hn hv; exact sum_any a bs cap w ht hr
theorem refSum_q (bs : List Nat) (v : Nat) (n : Nat) (hn : n = bs.length) (hv : v = sum bs) (a : Option Addr) (cap : Nat) (w : World) (hr : Row w a bs) :
    Calls Tryd.prog 16 #[.slice a n cap] w fun e w' => e = .returned (.int .u32 (v : Nat)) ∧ w' = w := by
  subst hn hv; exact refSum_any a bs cap w hr
theorem update_q (s : Nat) (bs : List Nat) (v : Nat) (n : Nat) (hn : n = bs.length) (hv : v = update s bs) (hs : s < 4294967296) (a : Option Addr) (cap : Nat) (w : World) (ht : TabIn w) (hr : Row w a bs) :
    Calls Tryd.prog 9 #[.int .u32 (s : Nat), .slice a n cap] w fun e w' => e = .returned (.int .u32 (v : Nat)) ∧ w' = w := by
  subst hn hv; exact update_any s a bs cap hs w ht hr
theorem refUpdate_q (s : Nat) (bs : List Nat) (v : Nat) (n : Nat) (hn : n = bs.length) (hv : v = update s bs) (hs : s < 4294967296) (a : Option Addr) (cap : Nat) (w : World) (hr : Row w a bs) :
    Calls Tryd.prog 17 #[.int .u32 (s : Nat), .slice a n cap] w fun e w' => e = .returned (.int .u32 (v : Nat)) ∧ w' = w := by
  subst hn hv; exact refUpdate_any s a bs cap hs w hr
theorem join_q (a b v : Nat) (n : Int) (hv : v = join a b n.toNat) (ha : a < 4294967296) (hb : b < 4294967296) (hn : n < 9223372036854775808) (hn' : -9223372036854775808 ≤ n) (w : World) (ht : TabIn w) :
    Calls Tryd.prog 8 #[.int .u32 (a : Nat), .int .u32 (b : Nat), .int .i64 n] w fun e w' => e = .returned (.int .u32 (v : Nat)) ∧ w' = w := by
  subst hv; exact join_any a b n ha hb hn hn' w ht
theorem refJoin_q (a b v : Nat) (n : Int) (hv : v = join a b n.toNat) (ha : a < 4294967296) (hb : b < 4294967296) (hn : n < 9223372036854775808) (hn' : -9223372036854775808 ≤ n) (w : World) :
    Calls Tryd.prog 18 #[.int .u32 (a : Nat), .int .u32 (b : Nat), .int .i64 n] w fun e w' => e = .returned (.int .u32 (v : Nat)) ∧ w' = w := by
  subst hv; exact refJoin_any a b n ha hb hn hn' w
theorem hash_q (s : ByteArray) (v : Nat) (hs : s.size ≤ maxLen) (hv : v = fnv 14695981039346656037 (nats s)) (w : World) :
    Calls Tryd.prog 14 #[.string s] w fun e w' => e = .returned (.int .u64 (v : Nat)) ∧ w' = w := by
  subst hv; exact hash_any s w hs
theorem refHash_q (s : ByteArray) (v : Nat) (hs : s.size ≤ maxLen) (hv : v = fnv 14695981039346656037 (nats s)) (w : World) :
    Calls Tryd.prog 19 #[.string s] w fun e w' => e = .returned (.int .u64 (v : Nat)) ∧ w' = w := by
  subst hv; exact refHash_any s w hs
theorem feed_q (h : Nat) (s : ByteArray) (v : Nat) (hh : h < 18446744073709551616) (hs : s.size ≤ maxLen) (hv : v = fnv h (nats s)) (w : World) :
    Calls Tryd.prog 13 #[.int .u64 (h : Nat), .string s] w fun e w' => e = .returned (.int .u64 (v : Nat)) ∧ w' = w := by
  subst hv; exact feed_any h s hh w hs
theorem refFeed_q (h : Nat) (s : ByteArray) (v : Nat) (hh : h < 18446744073709551616) (hs : s.size ≤ maxLen) (hv : v = fnv h (nats s)) (w : World) :
    Calls Tryd.prog 20 #[.int .u64 (h : Nat), .string s] w fun e w' => e = .returned (.int .u64 (v : Nat)) ∧ w' = w := by
  subst hv; exact refFeed_any h s hh w hs

set_option maxRecDepth 10000 in
set_option maxHeartbeats 1000000 in
theorem plays_any (a : Option Addr) (bs : List Nat) (cap : Nat) (T : ByteArray) (S R H : Nat) (N : Int) (w : World) (ht : TabIn w) (hr : Row w a bs) (hnil : a = none → cap = 0) (hlc : bs.length ≤ cap) (hcap : cap ≤ 140737488351232)
    (hT : T.size ≤ maxLen) (hS : S < 4294967296) (hR : R < 4294967296) (hH : H < 18446744073709551616) (h1 : -9223372036854775808 ≤ N) (h2 : N ≤ 9223372036854775807) :
    Calls Tryd.prog 6 #[.agg #[.slice a bs.length cap, .string T, .int .u32 (S : Nat), .int .u32 (R : Nat), .int .u64 (H : Nat), .int .i64 N]] w fun e w' => e = .returned (.bool true) ∧ Below w.heap.size w w' := by
  obtain ⟨i0, hi, hz0, hz1, hz2⟩ := info_parts info5
  go_enter Tryd.func6, Tryd.ntmps6
  go_wp2_with fail
  refine (alive_any _ (ht.alloc _)).mono ?_
  rintro e w1 ⟨rfl, hb1⟩
  have hf0 : Fields (w.alloc (.cells #[.slice a bs.length cap, .string T, .int .u32 (S : Nat), .int .u32 (R : Nat), .int .u64 (H : Nat), .int .i64 N] 38)) w.heap.size (fun j => (#[.slice a bs.length cap, .string T, .int .u32 (S : Nat), .int .u32 (R : Nat), .int .u64 (H : Nat), .int .i64 N] : Array Value)[j]?) := by
    intro j hj
    rw [World.cell?_alloc_mark]
    match j, hj with
    | 0, _ => exact ⟨_, rfl, rfl⟩
    | 1, _ => exact ⟨_, rfl, rfl⟩
    | 2, _ => exact ⟨_, rfl, rfl⟩
    | 3, _ => exact ⟨_, rfl, rfl⟩
    | 4, _ => exact ⟨_, rfl, rfl⟩
    | 5, _ => exact ⟨_, rfl, rfl⟩
  have hf1 := hf0.later hb1
  have hB0 : Below w.heap.size w (w.alloc (.cells #[.slice a bs.length cap, .string T, .int .u32 (S : Nat), .int .u32 (R : Nat), .int .u64 (H : Nat), .int .i64 N] 38)) := (Below.refl _ _).alloc (Nat.le_refl _) _
  have hB1 : Below w.heap.size w w1 := hB0.trans (hb1.mono hB0.size)
  have hg1 : w.heap.size < w1.heap.size := by have := hb1.size; simp at this; omega
  obtain ⟨F, hF⟩ : ∃ F : Nat → Option Value, F = (fun j => (#[.slice a bs.length cap, .string T, .int .u32 (S : Nat), .int .u32 (R : Nat), .int .u64 (H : Nat), .int .i64 N] : Array Value)[j]?) := ⟨_, rfl⟩
  rw [← hF] at hf1
  have F0 : Hid (F 0 = some (.slice a bs.length cap)) := by rw [hF]; rfl
  have F1 : Hid (F 1 = some (.string T)) := by rw [hF]; rfl
  have F2 : Hid (F 2 = some (.int .u32 (S : Nat))) := by rw [hF]; rfl
  have F3 : Hid (F 3 = some (.int .u32 (R : Nat))) := by rw [hF]; rfl
  have F4 : Hid (F 4 = some (.int .u64 (H : Nat))) := by rw [hF]; rfl
  have F5 : Hid (F 5 = some (.int .i64 N)) := by rw [hF]; rfl
  have HF1 : Hid (Fields w1 w.heap.size F) := hf1
  have HB1 : Hid (Below w.heap.size w w1) := hB1
  have c0 := hf1.at 0 (by decide) F0.out
  clear hf0 hf1 hB0 hB1 hF hb1
  go_wp2_with fail
  refine (own_to w1 a bs bs.length cap rfl (hr.later HB1.out) hnil (by omega)).mono ?_
  rintro e w2 ⟨gx, cx, rfl, gx1, mx, hb2⟩
  have HF2 : Hid (Fields w2 w.heap.size F) := HF1.out.later hb2
  have HB2 : Hid (Below w.heap.size w w2) := HB1.out.trans (hb2.mono HB1.out.size)
  have hown : (w2.alloc (.cells #[.int .u8 161, .int .u8 162] 5)).ownsRow w1.heap.size 5 1 (.slice (some ⟨gx, 0, none⟩) bs.length cx) bs.length (vals bs) := World.ownsRow.alloc mx _
  have hs2 : w1.heap.size ≤ w2.heap.size := hb2.size
  have HBB : Hid (Below w1.heap.size w1 w2) := hb2
  clear c0 hb2
  have hnews : ∀ j u, (vals [161, 162])[j]? = some u → (w2.alloc (.cells #[.int .u8 161, .int .u8 162] 5)).cell? (Addr.add ⟨w2.heap.size, 0, none⟩ j) = some u := by
    intro j u hj
    match j, hj with
    | 0, hj => simp [vals] at hj; subst hj; rw [addr_add, Nat.zero_add, World.cell?_alloc_mark]; rfl
    | 1, hj => simp [vals] at hj; subst hj; rw [addr_add, Nat.zero_add, World.cell?_alloc_mark]; rfl
    | j + 2, hj => simp [vals] at hj
  go_upto_region 5 with (at_builtin; go_must (refine wpList_append_own _ rfl _ _ 25 rfl w1.heap.size 5 i0 (.int .u8 0) 1 1 Tryd.underlying25 hi hz0 hz1 hz2 rfl (by decide) (.slice (some ⟨gx, 0, none⟩) bs.length cx) bs.length (vals bs) (by rfl) hown ⟨w2.heap.size, 0, none⟩ 2 2 (vals [161, 162]) (by rfl) (by simp [vals]) hnews (by intro u hu; simp [vals] at hu; rcases hu with rfl | rfl <;> rfl) (by unfold maxLen; omega) (by omega) (by simp; omega) ?_); intro v' w3 hown' hgrow hne)
  obtain ⟨gf, cf, hv, hcf, mf⟩ := mine_more (g := 0) (c := 0) (w := w) hown' (by rw [hne]; simp)
  rw [hv]
  clear hv hne
  have hb3 : Below w1.heap.size w1 w3 := (HBB.out.alloc hs2 _).grown hgrow (by simp; omega) (fun k hk => by simp [Value.ownBlock] at hk; omega)
  have hB3 : Below w.heap.size w w3 := HB1.out.trans (hb3.mono HB1.out.size)
  have hf3 := HF1.out.later hb3
  have c0 := hf3.at 0 (by decide) F0.out
  have c1 := hf3.at 1 (by decide) F1.out
  have c2 := hf3.at 2 (by decide) F2.out
  have c3 := hf3.at 3 (by decide) F3.out
  have c4 := hf3.at 4 (by decide) F4.out
  have c5 := hf3.at 5 (by decide) F5.out
  have hby := hr.1
  have hby2 : ∀ c ∈ bs ++ [161, 162], c < 256 := by
    intro c hc
    simp at hc
    rcases hc with h | rfl | rfl
    · exact hby c h
    · decide
    · decide
  have rA : Hid (Row w3 a bs) := hr.later hB3
  have rF : Hid (Row w3 (some ⟨gf, 0, none⟩) bs) := by
    have h := (mf.row hby2 (by simp; omega)).take bs.length
    rw [List.take_left] at h
    exact h
  have k1 : w3.cell? ⟨gf, bs.length, none⟩ = some (.int .u8 161) := by
    have := mf.cell bs.length (by simp)
    simpa using this
  have k2 : w3.cell? ⟨gf, bs.length + 1, none⟩ = some (.int .u8 162) := by
    have := mf.cell (bs.length + 1) (by simp)
    simpa [List.getElem?_append_right] using this
  have T3 : Hid (TabIn w3) := ht.below hB3
  have HB3 : Hid (Below w.heap.size w w3) := hB3
  obtain ⟨sb, e1⟩ : ∃ v, v = sum bs := ⟨_, rfl⟩
  obtain ⟨ub, e2⟩ : ∃ v, v = update S bs := ⟨_, rfl⟩
  obtain ⟨jb, e3⟩ : ∃ v, v = join S R N.toNat := ⟨_, rfl⟩
  obtain ⟨hh, e4⟩ : ∃ v, v = fnv 14695981039346656037 (nats T) := ⟨_, rfl⟩
  obtain ⟨fh, e5⟩ : ∃ v, v = fnv H (nats T) := ⟨_, rfl⟩
  have E1 : Hid (sb = sum bs) := e1
  have E2 : Hid (ub = update S bs) := e2
  have E3 : Hid (jb = join S R N.toNat) := e3
  have E4 : Hid (hh = fnv 14695981039346656037 (nats T)) := e4
  have E5 : Hid (fh = fnv H (nats T)) := e5
  have tA : ∀ n, (convert 25 9 (.slice a bs.length cap)).run Tryd.prog (w3.drewN n) = .ok (.string (text bs)) (w3.drewN n) := fun n => run_text _ _ bs _ cap rfl (rA.out.drewN n)
  have tF : ∀ n, (convert 25 9 (.slice (some ⟨gf, 0, none⟩) bs.length cf)).run Tryd.prog (w3.drewN n) = .ok (.string (text bs)) (w3.drewN n) := fun n => run_text _ _ bs _ cf rfl (rF.out.drewN n)
  have hT' : Hid (T.size ≤ maxLen) := hT
  clear e1 e2 e3 e4 e5 hby hby2 mf hf3 hb3 hB3 HF1 HF2 HB1 HB2 HBB hown hown' hgrow mx hr ht hT F0 F1 F2 F3 F4 F5 hi hz0 hz1 hz2 i0 hnews
  go_wp2_with fail
  go_quiet ((first
    | (go_at_call 10; exact Calls.quiet_of_same (sum_q bs sb _ rfl E1.out _ _ _ (T3.out.drewN _) (rF.out.drewN _)))
    | (go_at_call 16; exact Calls.quiet_of_same (refSum_q bs sb _ rfl E1.out _ _ _ (rA.out.drewN _)))
    | (go_at_call 9; exact Calls.quiet_of_same (update_q S bs ub _ rfl E2.out hS _ _ _ (T3.out.drewN _) (rF.out.drewN _)))
    | (go_at_call 17; exact Calls.quiet_of_same (refUpdate_q S bs ub _ rfl E2.out hS _ _ _ (rA.out.drewN _)))
    | (go_at_call 8; exact Calls.quiet_of_same (join_q S R jb N E3.out hS hR (by omega) (by omega) _ (T3.out.drewN _)))
    | (go_at_call 18; exact Calls.quiet_of_same (refJoin_q S R jb N E3.out hS hR (by omega) (by omega) _))))
  go_wp2_with fail
  have d1 : (w3.drewN nq).cell? ⟨w.heap.size, 1, none⟩ = some (.string T) := c1
  have d4 : (w3.drewN nq).cell? ⟨w.heap.size, 4, none⟩ = some (.int .u64 (H : Nat)) := c4
  have HB4 : Hid (Below w.heap.size w (w3.drewN nq)) := HB3.out.trans ⟨rfl, rfl, rfl, Nat.le_refl _, fun _ _ => rfl⟩
  obtain ⟨w4, hw4⟩ : ∃ x, x = w3.drewN nq := ⟨_, rfl⟩
  rw [← hw4] at d1 d4 HB4 ⊢
  clear hw4 c0 c1 c2 c3 c4 c5 k1 k2 tA tF
  go_quiet ((first
    | (go_at_call 14; exact Calls.quiet_of_same (hash_q T hh hT'.out E4.out _))
    | (go_at_call 19; exact Calls.quiet_of_same (refHash_q T hh hT'.out E4.out _))
    | (go_at_call 13; exact Calls.quiet_of_same (feed_q H T fh hH hT'.out E5.out _))
    | (go_at_call 20; exact Calls.quiet_of_same (refFeed_q H T fh hH hT'.out E5.out _))))
  go_wp2_with fail
  go_ret
  exact ⟨rfl, HB4.out.trans ⟨rfl, rfl, rfl, Nat.le_refl _, fun _ _ => rfl⟩⟩
end Go.Proofs.YtbkfalaicocopaaDoor
