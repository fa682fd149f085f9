/- writeVersion, writeAnswer, writeRead, writeWrite, writeEvent. -/
import Derived.Test.YtjkljljmjjnneaaGreatDoorW1
namespace Go.Proofs.YtjkljljmjjnneaaGreatDoor
open Go.RowKit Go.Sort Orl
set_option linter.unusedVariables false
set_option linter.unusedSimpArgs false

/-- what a call boxed, beside the builder -/
structure Bx (w0 w W : World) (b Z : Nat) (cs : Array Value) (t : TypeId) (acc : List UInt8) : Prop where
  bd : Bd w0 W b acc
  blk : W.heap[Z]? = some (.cells cs t (0, 0))
  bo : Bo b w W
  ne : Z ≠ b
  nt : t ≠ 5
theorem Bx.step {w0 w W W' : World} {b Z : Nat} {cs : Array Value} {t : TypeId} {acc out : List UInt8} {v : Value} {e : Ending} (h : Bx w0 w W b Z cs t acc) (ht : BdTo w0 W b acc out v e W') : Bx w0 w W' b Z cs t (acc ++ out) :=
  ⟨ht.2.1, ht.2.2.at h.blk h.ne h.nt, h.bo.trans ht.2.2, h.ne, h.nt⟩
theorem Bx.keepsN {w0 w W W' : World} {b Z : Nat} {cs : Array Value} {t : TypeId} {acc : List UInt8} (h : Bx w0 w W b Z cs t acc) (k : Keeps no W W') : Bx w0 w W' b Z cs t acc :=
  ⟨h.bd.keepsN k, k.at h.blk id, h.bo.trans (k.bo b), h.ne, h.nt⟩
theorem bx_new {w0 w : World} {b : Nat} {acc : List UInt8} (h : Bd w0 w b acc) (cs : Array Value) (t : TypeId) (nt : t ≠ 5) : Bx w0 w (w.alloc (.cells cs t)) b w.heap.size cs t acc :=
  ⟨h.keepsN ((Keeps.refl _ _).alloc _), blk_new w _, ((Keeps.refl no w).alloc _).bo b, by have := h.lt; omega, nt⟩
/-! ### weights: how long a text can become -/
def wtT (t : Tx) : Nat := 3 * t.size + 4
def wtV (v : Ver) : Nat := wtT v.key + wtT v.val + (v.keys.map fun k => wtT k + 1).sum + 30
theorem textW_wt (t : Tx) : (textW t.data.toList).length ≤ wtT t := by
  have h := textW_len t.data.toList
  have e : t.data.toList.length = t.size := Array.length_toList
  unfold wtT
  omega
theorem flat_le {α : Type} (g : α → List UInt8) (f : α → Nat) (l : List α) (h : ∀ x ∈ l, (g x).length ≤ f x) : (l.flatMap g).length ≤ (l.map f).sum := by
  induction l with
  | nil => simp
  | cons x l ih =>
    rw [List.flatMap_cons, List.length_append, List.map_cons, List.sum_cons]
    have := h x (by simp)
    have := ih (fun y hy => h y (by simp [hy]))
    omega
theorem sum_take {α : Type} (f : α → Nat) (d : α) : ∀ (l : List α) (k : Nat), k < l.length → ((l.take k).map f).sum + f (l.getD k d) ≤ (l.map f).sum
  | [], k, h => by simp at h
  | x :: l, 0, h => by simp
  | x :: l, k + 1, h => by
    have := sum_take f d l k (by simpa using h)
    simp only [List.take_succ_cons, List.map_cons, List.sum_cons, List.getD_cons_succ]
    omega
theorem flat_snoc {α : Type} (g : α → List UInt8) (d : α) (l : List α) (k : Nat) (h : k < l.length) : (l.take (k + 1)).flatMap g = (l.take k).flatMap g ++ g (l.getD k d) := by
  rw [take_succ_getD l k d h, List.flatMap_append]; simp
theorem flat_room {α : Type} (g : α → List UInt8) (f : α → Nat) (d : α) (l : List α) (k : Nat) (hk : k < l.length) (h : ∀ x ∈ l, (g x).length ≤ f x) : ((l.take k).flatMap g).length + f (l.getD k d) ≤ (l.map f).sum := by
  have h1 := flat_le g f (l.take k) (fun x hx => h x (List.mem_of_mem_take hx))
  have h2 := sum_take f d l k hk
  omega
/-! ### versions -/
def keyW (c : UInt8) (k : Tx) : List UInt8 := c :: textW k.data.toList
def verW (v : Ver) : List UInt8 := textW v.key.data.toList ++ [61] ++ numW v.id ++ (if v.id = 0 then [] else [61] ++ textW v.val.data.toList ++ v.keys.flatMap (keyW 61))
theorem keyW_wt (c : UInt8) (k : Tx) : (keyW c k).length ≤ wtT k + 1 := by
  unfold keyW; rw [List.length_cons]; have := textW_wt k; omega
theorem verW_wt {v : Ver} (h : v.id < 18446744073709551616) : (verW v).length ≤ wtV v := by
  unfold verW wtV
  have h1 := textW_wt v.key
  have h2 := textW_wt v.val
  have h3 := numW_len h
  have h4 := flat_le (keyW 61) (fun k => wtT k + 1) v.keys (fun k _ => keyW_wt 61 k)
  by_cases e : v.id = 0
  · rw [if_pos e]; simp only [List.length_append, List.length_singleton, List.length_nil]; omega
  · rw [if_neg e]; simp only [List.length_append, List.length_singleton]; omega
set_option maxRecDepth 10000 in
set_option maxHeartbeats 4000000 in
theorem writeVersion_any (w0 w : World) (b : Nat) (acc : List UInt8) (h : Bd w0 w b acc) (hp : PowIn w0) (r : RV) (v : Ver) (hv : VerOf w0 r v) (hid : v.id < 18446744073709551616) (hl : acc.length + wtV v ≤ 140737488355328) (hk : v.keys.length ≤ 8796093022000) :
    Calls Tryz.prog 63 #[.pointer (some ⟨b, 0, none⟩), .agg #[.string r.key, .int .u64 (r.id : Nat), .string r.val, .slice r.o r.n r.c]] w (Wr0 w0 w b acc (verW v)) := by
  obtain ⟨rk, ri, rv, ro, rn, rc⟩ := r
  obtain ⟨rfl, rfl, rfl, hn, hs⟩ := hv
  simp only at hn hs ⊢
  have HP : Hid (PowIn w0 ∧ rn = v.keys.length ∧ Sl TE w0 ro rc v.keys ∧ v.id < 18446744073709551616) := ⟨hp, hn, hs, hid⟩
  have HLL : Hid (acc.length + (3 * v.key.size + 4) + (3 * v.val.size + 4) + (v.keys.map fun k => wtT k + 1).sum + 30 ≤ 140737488355328) := by
    show _ ≤ _
    unfold wtV wtT at hl
    have e : (v.keys.map fun k => wtT k + 1) = v.keys.map fun k => 3 * k.size + 4 + 1 := rfl
    rw [e]
    omega
  have hnb : (rn : Int) ≤ 8796093022000 := by omega
  obtain ⟨Z, hZ⟩ : ∃ Z, Z = w.heap.size := ⟨_, rfl⟩
  have HX : Hid (∀ W, W = w.alloc (.cells #[.string v.key, .int .u64 (v.id : Nat), .string v.val, .slice ro rn rc] 56) → Bx w0 w W b Z #[.string v.key, .int .u64 (v.id : Nat), .string v.val, .slice ro rn rc] 56 acc) := by
    rintro W rfl
    rw [hZ]
    exact bx_new h _ _ (by decide)
  clear h hp hn hs hid hl hk
  have HC : Hid (∀ {W : World} {A : List UInt8}, Bx w0 w W b Z #[.string v.key, .int .u64 (v.id : Nat), .string v.val, .slice ro rn rc] 56 A → W.cell? ⟨Z, 0, none⟩ = some (.string v.key) ∧ W.cell? ⟨Z, 1, none⟩ = some (.int .u64 (v.id : Nat)) ∧ W.cell? ⟨Z, 2, none⟩ = some (.string v.val) ∧ W.cell? ⟨Z, 3, none⟩ = some (.slice ro rn rc)) := fun {W A} hW => by
    rw [cell_of_blk hW.blk, cell_of_blk hW.blk, cell_of_blk hW.blk, cell_of_blk hW.blk]
    exact ⟨rfl, rfl, rfl, rfl⟩
  go_enter Tryz.func63, Tryz.ntmps63
  go_upto_region 1 with fail
  have h1 := HX.out _ rfl
  rw [← hZ]
  clear hZ HX
  generalize w.alloc (.cells #[.string v.key, .int .u64 (v.id : Nat), .string v.val, .slice ro rn rc] 56) = w1 at h1 ⊢
  have H1 : Hid (Bx w0 w w1 b Z #[.string v.key, .int .u64 (v.id : Nat), .string v.val, .slice ro rn rc] 56 acc) := h1
  obtain ⟨z0, z1, z2, z3⟩ := HC.out h1
  clear h1
  go_wp2_with fail
  refine (writeText_any w0 _ b _ H1.out.bd v.key (by have := HLL.out;  omega)).mono ?_
  rintro e w2 he
  have hx := H1.out.step he
  obtain ⟨rfl, -⟩ := he
  obtain ⟨A2, hA2⟩ : ∃ A2, A2 = acc ++ textW v.key.data.toList := ⟨_, rfl⟩
  have LE2 : Hid (A2 = acc ++ textW v.key.data.toList ∧ A2.length ≤ acc.length + (3 * v.key.size + 4)) := ⟨hA2, by rw [hA2, List.length_append]; have := textW_wt v.key; unfold wtT at this; omega⟩
  rw [← hA2] at hx
  clear hA2
  have H2 : Hid (Bx w0 w w2 b Z #[.string v.key, .int .u64 (v.id : Nat), .string v.val, .slice ro rn rc] 56 A2) := hx
  clear z0 z1 z2 z3 H1
  obtain ⟨z0, z1, z2, z3⟩ := HC.out hx
  clear hx
  go_wp2_with fail
  refine (writeByte_any w0 _ b _ 61 H2.out.bd (by have := HLL.out; have := LE2.out.2; omega)).mono ?_
  rintro e w3 he
  have hx := H2.out.step he
  obtain ⟨rfl, -⟩ := he
  obtain ⟨A3, hA3⟩ : ∃ A3, A3 = A2 ++ [61] := ⟨_, rfl⟩
  have LE3 : Hid (A3 = A2 ++ [61] ∧ A3.length ≤ A2.length + 1) := ⟨hA3, by rw [hA3, List.length_append]; simp⟩
  rw [← hA3] at hx
  clear hA3
  have H3 : Hid (Bx w0 w w3 b Z #[.string v.key, .int .u64 (v.id : Nat), .string v.val, .slice ro rn rc] 56 A3) := hx
  clear z0 z1 z2 z3 H2
  obtain ⟨z0, z1, z2, z3⟩ := HC.out hx
  clear hx
  go_wp2_with fail
  refine (writeNumber_any w0 _ b _ H3.out.bd (HP.out.1.keepsN H3.out.bd.kp) v.id HP.out.2.2.2 (by have := HLL.out; have := LE2.out.2; have := LE3.out.2; omega)).mono ?_
  rintro e w4 he
  have hx := H3.out.step he
  obtain ⟨rfl, -⟩ := he
  obtain ⟨A4, hA4⟩ : ∃ A4, A4 = A3 ++ numW v.id := ⟨_, rfl⟩
  have LE4 : Hid (A4 = A3 ++ numW v.id ∧ A4.length ≤ A3.length + 20) := ⟨hA4, by rw [hA4, List.length_append]; have := numW_len HP.out.2.2.2; omega⟩
  rw [← hA4] at hx
  clear hA4
  have H4 : Hid (Bx w0 w w4 b Z #[.string v.key, .int .u64 (v.id : Nat), .string v.val, .slice ro rn rc] 56 A4) := hx
  clear z0 z1 z2 z3 H3
  obtain ⟨z0, z1, z2, z3⟩ := HC.out hx
  clear hx
  by_cases hz : v.id = 0
  · have hz' : ((v.id : Nat) : Int) = 0 := by omega
    have HE : Hid (Bd w0 w4 b (acc ++ verW v) ∧ Bo b w w4) := by
      refine ⟨?_, H4.out.bo⟩
      have h9 := H4.out.bd
      rw [LE4.out.1, LE3.out.1, LE2.out.1] at h9
      unfold verW
      rw [if_pos hz, List.append_nil]
      simpa using h9
    go_wp2_with fail
    go_end0
    exact ⟨rfl, HE.out.1, HE.out.2⟩
  · have hz' : ¬ ((v.id : Nat) : Int) = 0 := by omega
    go_wp2_with fail
    refine (writeByte_any w0 _ b _ 61 H4.out.bd (by have := HLL.out; have := LE2.out.2; have := LE3.out.2; have := LE4.out.2; omega)).mono ?_
    rintro e w5 he
    have hx := H4.out.step he
    obtain ⟨rfl, -⟩ := he
    obtain ⟨A5, hA5⟩ : ∃ A5, A5 = A4 ++ [61] := ⟨_, rfl⟩
    have LE5 : Hid (A5 = A4 ++ [61] ∧ A5.length ≤ A4.length + 1) := ⟨hA5, by rw [hA5, List.length_append]; simp⟩
    rw [← hA5] at hx
    clear hA5
    have H5 : Hid (Bx w0 w w5 b Z #[.string v.key, .int .u64 (v.id : Nat), .string v.val, .slice ro rn rc] 56 A5) := hx
    clear z0 z1 z2 z3 H4
    obtain ⟨z0, z1, z2, z3⟩ := HC.out hx
    clear hx
    go_wp2_with fail
    refine (writeText_any w0 _ b _ H5.out.bd v.val (by have := HLL.out; have := LE2.out.2; have := LE3.out.2; have := LE4.out.2; have := LE5.out.2; omega)).mono ?_
    rintro e w6 he
    have hx := H5.out.step he
    obtain ⟨rfl, -⟩ := he
    obtain ⟨A6, hA6⟩ : ∃ A6, A6 = A5 ++ textW v.val.data.toList := ⟨_, rfl⟩
    have LE6 : Hid (A6 = A5 ++ textW v.val.data.toList ∧ A6.length ≤ A5.length + (3 * v.val.size + 4)) := ⟨hA6, by rw [hA6, List.length_append]; have := textW_wt v.val; unfold wtT at this; omega⟩
    rw [← hA6] at hx
    clear hA6
    have H6 : Hid (Bx w0 w w6 b Z #[.string v.key, .int .u64 (v.id : Nat), .string v.val, .slice ro rn rc] 56 A6) := hx
    clear z0 z1 z2 z3 H5
    obtain ⟨z0, z1, z2, z3⟩ := HC.out hx
    clear hx
    go_wp2_with fail
    go_loopw [28] (fun s28 wr => ∃ k : Nat, k ≤ rn ∧ s28 = .int .i64 (k : Nat) ∧ Hid (Bd w0 wr b (A6 ++ (v.keys.take k).flatMap (keyW 61)) ∧ Bo b w wr)) (fun s28 _ => rn - (intOf s28).toNat)
    case atStart => exact ⟨0, by omega, rfl, by simpa using H6.out.bd, H6.out.bo⟩
    case round =>
      rename World => wr
      obtain ⟨k, hkk, rfl, HR⟩ := hrel
      by_cases hlt : k < rn
      · have hlt' : (k : Int) < rn := by omega
        have hkl : k < v.keys.length := by have := HP.out.2.1; omega
        obtain ⟨g, off, rfl, hc⟩ := (HP.out.2.2.1.keepsN HR.out.1.kp).at hkl
        have HRM : Hid ((A6 ++ (v.keys.take k).flatMap (keyW 61)).length + wtT (v.keys.getD k e0) + 1 ≤ 140737488355328) := by
          show _ ≤ _
          have h1 := flat_room (keyW 61) (fun k => wtT k + 1) e0 v.keys k hkl (fun k _ => keyW_wt 61 k)
          rw [List.length_append]
          have := HLL.out
          have := LE2.out.2; have := LE3.out.2; have := LE4.out.2; have := LE5.out.2; have := LE6.out.2;
          omega
        have HSN : Hid ((v.keys.take (k + 1)).flatMap (keyW 61) = (v.keys.take k).flatMap (keyW 61) ++ keyW 61 (v.keys.getD k e0)) := flat_snoc _ e0 _ _ hkl
        generalize v.keys.getD k e0 = x at hc HRM HSN
        clear hkl
        go_wp2_with fail
        refine (writeByte_any w0 _ b _ 61 HR.out.1 (by have := HRM.out; omega)).mono ?_
        rintro e w8 ⟨rfl, h1, h2⟩
        have H8 : Hid (Bd w0 w8 b (A6 ++ (v.keys.take k).flatMap (keyW 61) ++ [61]) ∧ Bo b w w8) := ⟨h1, HR.out.2.trans h2⟩
        clear h1 h2 hc
        go_wp2_with fail
        refine (writeText_any w0 _ b _ H8.out.1 x (by have := HRM.out; unfold wtT at this; rw [List.length_append, List.length_singleton]; omega)).mono ?_
        rintro e w9 ⟨rfl, h1, h2⟩
        have HN : Hid (Bd w0 w9 b (A6 ++ (v.keys.take (k + 1)).flatMap (keyW 61)) ∧ Bo b w w9) := by
          refine ⟨?_, H8.out.2.trans h2⟩
          rw [HSN.out]
          simpa [keyW] using h1
        clear h1 h2
        go_wp2_with fail
        go_roundw
        case rel => exact ⟨k + 1, by omega, by go_num, HN⟩
        case measure => first | (simp [intOf]; done) | (simp [intOf]; omega)
      · have hlt' : ¬ (k : Int) < rn := by omega
        have HE : Hid (Bd w0 wr b (acc ++ verW v) ∧ Bo b w wr) := by
          refine ⟨?_, HR.out.2⟩
          have h9 := HR.out.1
          rw [List.take_of_length_le (by have := HP.out.2.1; omega), LE6.out.1, LE5.out.1, LE4.out.1, LE3.out.1, LE2.out.1] at h9
          unfold verW
          rw [if_neg hz]
          simpa using h9
        clear HR
        go_wp2_with fail
        go_end0
        exact ⟨rfl, HE.out.1, HE.out.2⟩
/-! ### the variables -/
def wordA : Array Value := #[.string ⟨#[111, 107]⟩, .string ⟨#[115, 116, 97, 108, 101]⟩, .string ⟨#[97, 98, 111, 114, 116, 101, 100]⟩, .string ⟨#[117, 110, 107, 110, 111, 119, 110]⟩, .string ⟨#[105, 110, 118, 97, 108, 105, 100]⟩, .string ⟨#[101, 120, 104, 97, 117, 115, 116, 101, 100]⟩]
def wordL (r : Nat) : List UInt8 := match r with | 1 => [111, 107] | 2 => [115, 116, 97, 108, 101] | 3 => [97, 98, 111, 114, 116, 101, 100] | 4 => [117, 110, 107, 110, 111, 119, 110] | 5 => [105, 110, 118, 97, 108, 105, 100] | _ => [101, 120, 104, 97, 117, 115, 116, 101, 100]
def WordIn (w : World) : Prop := w.var? Tryz.prog "rampart/history.resultWords" = some wordA
theorem gWord : Tryz.prog.globalNamed "rampart/history.resultWords" = some 0 := by kernel_rfl
theorem WordIn.blk {w : World} (h : WordIn w) : ∃ t fz, w.heap[0]? = some (.cells wordA t fz) := by
  unfold WordIn World.var? at h
  rw [gWord] at h
  simp only [Option.bind_some] at h
  split at h
  · rename_i cs t fz e
    injection h with h
    subst h
    exact ⟨t, fz, e⟩
  · cases h
theorem WordIn.keepsN {w w' : World} (h : WordIn w) (k : Keeps no w w') : WordIn w' := by
  obtain ⟨t, fz, hb⟩ := h.blk
  have h2 := k.at hb id
  unfold WordIn World.var?
  rw [gWord]
  simp only [Option.bind_some]
  rw [h2]
def ErrIn (w : World) (g : Nat) : Prop := ∃ te pe, w.cell? ⟨g, 0, none⟩ = some (.iface te pe)
theorem ErrIn.keepsN {w w' : World} {g : Nat} (h : ErrIn w g) (k : Keeps no w w') : ErrIn w' g := by
  obtain ⟨te, pe, h1⟩ := h; exact ⟨te, pe, k.cellN h1⟩
/-- what the program's variables hold -/
structure Vs (w : World) : Prop where
  pow : PowIn w
  word : WordIn w
  syn : ErrIn w 3
  rng : ErrIn w 4
theorem Vs.keepsN {w w' : World} (h : Vs w) (k : Keeps no w w') : Vs w' := ⟨h.pow.keepsN k, h.word.keepsN k, h.syn.keepsN k, h.rng.keepsN k⟩
theorem WordIn.at {w : World} (h : WordIn w) (r : Nat) (h1 : 1 ≤ r) (h6 : r ≤ 6) : w.cell? ⟨0, r - 1, none⟩ = some (.string ⟨(wordL r).toArray⟩) := by
  obtain ⟨t, fz, hb⟩ := h.blk
  rw [cell_of_blk hb]
  obtain rfl | rfl | rfl | rfl | rfl | rfl : r = 1 ∨ r = 2 ∨ r = 3 ∨ r = 4 ∨ r = 5 ∨ r = 6 := by omega
  all_goals rfl
theorem wordL_len (r : Nat) : (wordL r).length ≤ 9 := by unfold wordL; split <;> decide
/-! ### answers -/
def versW (l : List Ver) : List UInt8 := l.flatMap fun v => 32 :: verW v
def ansW (r : Nat) (id : Nat) (l : List Ver) : List UInt8 := wordL r ++ [32] ++ numW id ++ versW l
set_option maxRecDepth 10000 in
set_option maxHeartbeats 4000000 in
theorem writeAnswer_any (w0 w : World) (b : Nat) (acc : List UInt8) (h : Bd w0 w b acc) (hp : Vs w0) (x : Int) (q i : Nat) (vo : Option Addr) (vn vc : Nat) (rs : List RV) (vs : List Ver) (hn : vn = vs.length) (hv : Vers w0 vo vc rs vs) (hq : 1 ≤ q ∧ q ≤ 6) (hi : i < 18446744073709551616) (hid : ∀ v ∈ vs, v.id < 18446744073709551616) (hsz : ∀ v ∈ vs, v.keys.length ≤ 8796093022000) (hl : acc.length + (vs.map fun v => wtV v + 1).sum + 30 ≤ 140737488355328) (hk : vs.length ≤ 2199023255500) :
    Calls Tryz.prog 42 #[.pointer (some ⟨b, 0, none⟩), .agg #[.int .i64 x, .int .i64 (q : Nat), .int .u64 (i : Nat), .slice vo vn vc]] w (Wr0 w0 w b acc (ansW q i vs)) := by
  have HP : Hid (Vs w0 ∧ vn = vs.length ∧ Vers w0 vo vc rs vs ∧ i < 18446744073709551616 ∧ (∀ v ∈ vs, v.id < 18446744073709551616) ∧ ∀ v ∈ vs, v.keys.length ≤ 8796093022000) := ⟨hp, hn, hv, hi, hid, hsz⟩
  have HLL : Hid (acc.length + (vs.map fun v => wtV v + 1).sum + 30 ≤ 140737488355328) := hl
  have hnb : (vn : Int) ≤ 2199023255500 := by omega
  have HQ : Hid (1 ≤ q ∧ q ≤ 6) := hq
  have hw : ∀ W, Keeps no w0 W → W.cell? ⟨0, q - 1, none⟩ = some (.string ⟨(wordL q).toArray⟩) := fun W hW => (hp.word.keepsN hW).at q hq.1 hq.2
  obtain ⟨m, hm⟩ : ∃ m, m = q - 1 := ⟨_, rfl⟩
  have hm1 : (q : Int) - 1 = (m : Int) := by omega
  have hm6 : (m : Int) < 6 := by omega
  rw [← hm] at hw
  have HWC : Hid (∀ W, Keeps no w0 W → W.cell? ⟨0, m, none⟩ = some (.string ⟨(wordL q).toArray⟩)) := hw
  clear hw
  obtain ⟨Z, hZ⟩ : ∃ Z, Z = w.heap.size := ⟨_, rfl⟩
  have HX : Hid (∀ W, W = w.alloc (.cells #[.int .i64 x, .int .i64 (q : Nat), .int .u64 (i : Nat), .slice vo vn vc] 34) → Bx w0 w W b Z #[.int .i64 x, .int .i64 (q : Nat), .int .u64 (i : Nat), .slice vo vn vc] 34 acc) := by
    rintro W rfl
    rw [hZ]
    exact bx_new h _ _ (by decide)
  clear h hp hn hv hi hid hsz hl hk hq hm
  have HC : Hid (∀ {W : World} {A : List UInt8}, Bx w0 w W b Z #[.int .i64 x, .int .i64 (q : Nat), .int .u64 (i : Nat), .slice vo vn vc] 34 A → W.cell? ⟨Z, 0, none⟩ = some (.int .i64 x) ∧ W.cell? ⟨Z, 1, none⟩ = some (.int .i64 (q : Nat)) ∧ W.cell? ⟨Z, 2, none⟩ = some (.int .u64 (i : Nat)) ∧ W.cell? ⟨Z, 3, none⟩ = some (.slice vo vn vc)) := fun {W A} hW => by
    rw [cell_of_blk hW.blk, cell_of_blk hW.blk, cell_of_blk hW.blk, cell_of_blk hW.blk]
    exact ⟨rfl, rfl, rfl, rfl⟩
  go_enter Tryz.func42, Tryz.ntmps42
  go_upto_region 1 with fail
  have h1 := HX.out _ rfl
  rw [← hZ]
  clear hZ HX
  generalize w.alloc (.cells #[.int .i64 x, .int .i64 (q : Nat), .int .u64 (i : Nat), .slice vo vn vc] 34) = w1 at h1 ⊢
  have H1 : Hid (Bx w0 w w1 b Z #[.int .i64 x, .int .i64 (q : Nat), .int .u64 (i : Nat), .slice vo vn vc] 34 acc) := h1
  obtain ⟨z0, z1, z2, z3⟩ := HC.out h1
  have hc0 := HWC.out _ h1.bd.kp
  clear h1
  go_wp2_with fail
  refine (writeString_any w0 _ b _ ⟨(wordL q).toArray⟩ H1.out.bd (by have := HLL.out; have := wordL_len q; show _ + (wordL q).toArray.size ≤ _; rw [List.size_toArray]; omega)).mono ?_
  rintro e w2 he
  have hx := H1.out.step he
  obtain ⟨rfl, -⟩ := he
  obtain ⟨A2, hA2⟩ : ∃ A2, A2 = acc ++ wordL q := ⟨_, rfl⟩
  have LE2 : Hid (A2 = acc ++ wordL q ∧ A2.length ≤ acc.length + 9) := ⟨hA2, by rw [hA2, List.length_append]; have := wordL_len q; omega⟩
  rw [← hA2] at hx
  clear hA2
  have H2 : Hid (Bx w0 w w2 b Z #[.int .i64 x, .int .i64 (q : Nat), .int .u64 (i : Nat), .slice vo vn vc] 34 A2) := hx
  clear z0 z1 z2 z3 H1
  obtain ⟨z0, z1, z2, z3⟩ := HC.out hx
  clear hx
  go_wp2_with fail
  refine (writeByte_any w0 _ b _ 32 H2.out.bd (by have := HLL.out; have := LE2.out.2; omega)).mono ?_
  rintro e w3 he
  have hx := H2.out.step he
  obtain ⟨rfl, -⟩ := he
  obtain ⟨A3, hA3⟩ : ∃ A3, A3 = A2 ++ [32] := ⟨_, rfl⟩
  have LE3 : Hid (A3 = A2 ++ [32] ∧ A3.length ≤ A2.length + 1) := ⟨hA3, by rw [hA3, List.length_append]; simp⟩
  rw [← hA3] at hx
  clear hA3
  have H3 : Hid (Bx w0 w w3 b Z #[.int .i64 x, .int .i64 (q : Nat), .int .u64 (i : Nat), .slice vo vn vc] 34 A3) := hx
  clear z0 z1 z2 z3 H2
  obtain ⟨z0, z1, z2, z3⟩ := HC.out hx
  clear hx
  go_wp2_with fail
  refine (writeNumber_any w0 _ b _ H3.out.bd (HP.out.1.pow.keepsN H3.out.bd.kp) i HP.out.2.2.2.1 (by have := HLL.out; have := LE2.out.2; have := LE3.out.2; omega)).mono ?_
  rintro e w4 he
  have hx := H3.out.step he
  obtain ⟨rfl, -⟩ := he
  obtain ⟨A4, hA4⟩ : ∃ A4, A4 = A3 ++ numW i := ⟨_, rfl⟩
  have LE4 : Hid (A4 = A3 ++ numW i ∧ A4.length ≤ A3.length + 20) := ⟨hA4, by rw [hA4, List.length_append]; have := numW_len HP.out.2.2.2.1; omega⟩
  rw [← hA4] at hx
  clear hA4
  have H4 : Hid (Bx w0 w w4 b Z #[.int .i64 x, .int .i64 (q : Nat), .int .u64 (i : Nat), .slice vo vn vc] 34 A4) := hx
  clear z0 z1 z2 z3 H3
  obtain ⟨z0, z1, z2, z3⟩ := HC.out hx
  clear hx
  go_wp2_with fail
  clear hc0
  go_loopw [22] (fun s22 wr => ∃ k : Nat, k ≤ vn ∧ s22 = .int .i64 (k : Nat) ∧ Hid (Bd w0 wr b (A4 ++ versW (vs.take k)) ∧ Bo b w wr)) (fun s22 _ => vn - (intOf s22).toNat)
  case atStart => exact ⟨0, by omega, rfl, by simpa [versW] using H4.out.bd, H4.out.bo⟩
  case round =>
    rename World => wr
    obtain ⟨k, hkk, rfl, HR⟩ := hrel
    by_cases hlt : k < vn
    · have hlt' : (k : Int) < vn := by omega
      have hkl : k < vs.length := by have := HP.out.2.1; omega
      have hvk := (HP.out.2.2.1.keepsN HR.out.1.kp)
      obtain ⟨g, off, e0', c0, c1, c2, c3⟩ := hvk.sl.atV (j := k) (by rw [hvk.len]; exact hkl)
      have hve := HP.out.2.2.1.each k hkl
      have HRM : Hid ((A4 ++ versW (vs.take k)).length + wtV (vs.getD k v0) + 1 ≤ 140737488355328) := by
        show _ ≤ _
        have h1 := flat_room (fun v => 32 :: verW v) (fun v => wtV v + 1) v0 vs k hkl (fun v hv => by rw [List.length_cons]; have := verW_wt (HP.out.2.2.2.2.1 v hv); omega)
        rw [List.length_append]
        unfold versW
        have := HLL.out
        have := LE2.out.2; have := LE3.out.2; have := LE4.out.2;
        omega
      have HSN : Hid (versW (vs.take (k + 1)) = versW (vs.take k) ++ 32 :: verW (vs.getD k v0)) := flat_snoc _ v0 _ _ hkl
      have HVK : Hid ((vs.getD k v0).id < 18446744073709551616 ∧ (vs.getD k v0).keys.length ≤ 8796093022000) := ⟨HP.out.2.2.2.2.1 _ (getD_mem_lt v0 hkl), HP.out.2.2.2.2.2 _ (getD_mem_lt v0 hkl)⟩
      obtain ⟨r, hr⟩ : ∃ r, r = rs.getD k r0 := ⟨_, rfl⟩
      rw [← hr] at c0 c1 c2 c3 hve
      have HVE : Hid (VerOf w0 r (vs.getD k v0)) := hve
      generalize vs.getD k v0 = v at HRM HSN HVE HVK
      clear hr hve hvk hkl
      obtain ⟨rk, ri, rv, ro, rn, rc⟩ := r
      simp only at c0 c1 c2 c3
      subst e0'
      obtain ⟨Y, hY⟩ : ∃ Y, Y = wr.heap.size := ⟨_, rfl⟩
      have HX : Hid (∀ W, W = wr.alloc (.cells #[.string rk, .int .u64 (ri : Nat), .string rv, .slice ro rn rc] 56) → Bx w0 wr W b Y #[.string rk, .int .u64 (ri : Nat), .string rv, .slice ro rn rc] 56 (A4 ++ versW (vs.take k))) := by
        rintro W rfl
        rw [hY]
        exact bx_new HR.out.1 _ _ (by decide)
      go_upto_region 7 with fail
      have h7 := HX.out _ rfl
      rw [← hY]
      clear hY HX c0 c1 c2 c3
      generalize wr.alloc (.cells #[.string rk, .int .u64 (ri : Nat), .string rv, .slice ro rn rc] 56) = w7 at h7 ⊢
      have H7 : Hid (Bx w0 wr w7 b Y #[.string rk, .int .u64 (ri : Nat), .string rv, .slice ro rn rc] 56 (A4 ++ versW (vs.take k))) := h7
      clear h7
      go_wp2_with fail
      refine (writeByte_any w0 _ b _ 32 H7.out.bd (by have := HRM.out; omega)).mono ?_
      rintro e w8 he
      have h8 := H7.out.step he
      obtain ⟨rfl, -⟩ := he
      have H8 : Hid (Bx w0 wr w8 b Y #[.string rk, .int .u64 (ri : Nat), .string rv, .slice ro rn rc] 56 (A4 ++ versW (vs.take k) ++ [32])) := h8
      have y0 : w8.cell? ⟨Y, 0, none⟩ = some (.string rk) := by rw [cell_of_blk h8.blk]; rfl
      have y1 : w8.cell? ⟨Y, 1, none⟩ = some (.int .u64 (ri : Nat)) := by rw [cell_of_blk h8.blk]; rfl
      have y2 : w8.cell? ⟨Y, 2, none⟩ = some (.string rv) := by rw [cell_of_blk h8.blk]; rfl
      have y3 : w8.cell? ⟨Y, 3, none⟩ = some (.slice ro rn rc) := by rw [cell_of_blk h8.blk]; rfl
      clear h8
      go_wp2_with fail
      refine (writeVersion_any w0 _ b _ H8.out.bd HP.out.1.pow ⟨rk, ri, rv, ro, rn, rc⟩ v HVE.out HVK.out.1 (by have := HRM.out; rw [List.length_append, List.length_singleton]; omega) HVK.out.2).mono ?_
      rintro e w9 he
      have h9 := H8.out.step he
      obtain ⟨rfl, -⟩ := he
      have HN : Hid (Bd w0 w9 b (A4 ++ versW (vs.take (k + 1))) ∧ Bo b w w9) := by
        refine ⟨?_, HR.out.2.trans h9.bo⟩
        rw [HSN.out]
        have := h9.bd
        simpa using this
      clear h9 y0 y1 y2 y3
      go_wp2_with fail
      go_roundw
      case rel => exact ⟨k + 1, by omega, by go_num, HN⟩
      case measure => first | (simp [intOf]; done) | (simp [intOf]; omega)
    · have hlt' : ¬ (k : Int) < vn := by omega
      have HE : Hid (Bd w0 wr b (acc ++ ansW q i vs) ∧ Bo b w wr) := by
        refine ⟨?_, HR.out.2⟩
        have h9 := HR.out.1
        rw [List.take_of_length_le (by have := HP.out.2.1; omega), LE4.out.1, LE3.out.1, LE2.out.1] at h9
        unfold ansW
        simpa using h9
      clear HR
      go_wp2_with fail
      go_end0
      exact ⟨rfl, HE.out.1, HE.out.2⟩
/-! ### reads, writes, events -/
def keysW (l : List Tx) : List UInt8 := l.flatMap (keyW 32)
def pairW (p : Pr) : List UInt8 := 32 :: (textW p.1.data.toList ++ [61] ++ textW p.2.data.toList)
def pairsW (l : List Pr) : List UInt8 := l.flatMap pairW
def wtP (p : Pr) : Nat := wtT p.1 + wtT p.2 + 2
theorem pairW_wt (p : Pr) : (pairW p).length ≤ wtP p := by
  unfold pairW wtP
  have h1 := textW_wt p.1
  have h2 := textW_wt p.2
  simp only [List.length_cons, List.length_append, List.length_nil]
  omega
def readW (l : List Tx) : List UInt8 := [114, 101, 97, 100] ++ keysW l
def writeW (i : Nat) (l : List Pr) : List UInt8 := [119, 114, 105, 116, 101] ++ [32] ++ numW i ++ pairsW l
def wtE (e : Ev) : Nat := (e.pairs.map wtP).sum + (e.keys.map fun k => wtT k + 1).sum + (e.vers.map fun v => wtV v + 1).sum + 100
def evW (e : Ev) : List UInt8 := if e.kind = 1 then writeW e.id e.pairs else if e.kind = 2 then readW e.keys else if e.kind = 3 then ansW e.ares.toNat e.aid e.vers else []
def lineW (e : Ev) : List UInt8 := numW e.client.toNat ++ [32] ++ numW e.txn.toNat ++ [32] ++ evW e ++ [10]
set_option maxRecDepth 10000 in
set_option maxHeartbeats 4000000 in
theorem writeRead_any (w0 w : World) (b : Nat) (acc : List UInt8) (h : Bd w0 w b acc) (ek ecl et : Int) (ei : Nat) (po : Option Addr) (pn pc : Nat) (ko : Option Addr) (kn kc : Nat) (ax ar : Int) (ai : Nat) (vo : Option Addr) (vn vc : Nat) (ks : List Tx) (hn : kn = ks.length) (hs : Sl TE w0 ko kc ks) (hl : acc.length + (ks.map fun k => wtT k + 1).sum + 30 ≤ 140737488355328) (hk : ks.length ≤ 8796093022000) :
    Calls Tryz.prog 41 #[.pointer (some ⟨b, 0, none⟩), .agg #[.int .i64 ek, .int .i64 ecl, .int .i64 et, .int .u64 (ei : Nat), .slice po pn pc, .slice ko kn kc, .int .i64 ax, .int .i64 ar, .int .u64 (ai : Nat), .slice vo vn vc]] w (Wr0 w0 w b acc (readW ks)) := by
  have HP : Hid (kn = ks.length ∧ Sl TE w0 ko kc ks) := ⟨hn, hs⟩
  have HLL : Hid (acc.length + (ks.map fun k => wtT k + 1).sum + 30 ≤ 140737488355328) := hl
  have hnb : (kn : Int) ≤ 8796093022000 := by omega
  obtain ⟨Z, hZ⟩ : ∃ Z, Z = w.heap.size := ⟨_, rfl⟩
  have HX : Hid (∀ W, W = w.alloc (.cells #[.int .i64 ek, .int .i64 ecl, .int .i64 et, .int .u64 (ei : Nat), .slice po pn pc, .slice ko kn kc, .int .i64 ax, .int .i64 ar, .int .u64 (ai : Nat), .slice vo vn vc] 36) → Bx w0 w W b Z #[.int .i64 ek, .int .i64 ecl, .int .i64 et, .int .u64 (ei : Nat), .slice po pn pc, .slice ko kn kc, .int .i64 ax, .int .i64 ar, .int .u64 (ai : Nat), .slice vo vn vc] 36 acc) := by
    rintro W rfl
    rw [hZ]
    exact bx_new h _ _ (by decide)
  clear h hn hs hl hk
  have HC : Hid (∀ {W : World} {A : List UInt8}, Bx w0 w W b Z #[.int .i64 ek, .int .i64 ecl, .int .i64 et, .int .u64 (ei : Nat), .slice po pn pc, .slice ko kn kc, .int .i64 ax, .int .i64 ar, .int .u64 (ai : Nat), .slice vo vn vc] 36 A → W.cell? ⟨Z, 0, none⟩ = some (.int .i64 ek) ∧ W.cell? ⟨Z, 1, none⟩ = some (.int .i64 ecl) ∧ W.cell? ⟨Z, 2, none⟩ = some (.int .i64 et) ∧ W.cell? ⟨Z, 3, none⟩ = some (.int .u64 (ei : Nat)) ∧ W.cell? ⟨Z, 4, none⟩ = some (.slice po pn pc) ∧ W.cell? ⟨Z, 5, none⟩ = some (.slice ko kn kc) ∧ W.cell? ⟨Z, 6, none⟩ = some (.int .i64 ax) ∧ W.cell? ⟨Z, 7, none⟩ = some (.int .i64 ar) ∧ W.cell? ⟨Z, 8, none⟩ = some (.int .u64 (ai : Nat)) ∧ W.cell? ⟨Z, 9, none⟩ = some (.slice vo vn vc)) := fun {W A} hW => by
    rw [cell_of_blk hW.blk, cell_of_blk hW.blk, cell_of_blk hW.blk, cell_of_blk hW.blk, cell_of_blk hW.blk, cell_of_blk hW.blk, cell_of_blk hW.blk, cell_of_blk hW.blk, cell_of_blk hW.blk, cell_of_blk hW.blk]
    exact ⟨rfl, rfl, rfl, rfl, rfl, rfl, rfl, rfl, rfl, rfl⟩
  go_enter Tryz.func41, Tryz.ntmps41
  go_upto_region 1 with fail
  have h1 := HX.out _ rfl
  rw [← hZ]
  clear hZ HX
  generalize w.alloc (.cells #[.int .i64 ek, .int .i64 ecl, .int .i64 et, .int .u64 (ei : Nat), .slice po pn pc, .slice ko kn kc, .int .i64 ax, .int .i64 ar, .int .u64 (ai : Nat), .slice vo vn vc] 36) = w1 at h1 ⊢
  have H1 : Hid (Bx w0 w w1 b Z #[.int .i64 ek, .int .i64 ecl, .int .i64 et, .int .u64 (ei : Nat), .slice po pn pc, .slice ko kn kc, .int .i64 ax, .int .i64 ar, .int .u64 (ai : Nat), .slice vo vn vc] 36 acc) := h1
  obtain ⟨z0, z1, z2, z3, z4, z5, z6, z7, z8, z9⟩ := HC.out h1
  clear h1
  go_wp2_with fail
  refine (writeString_any w0 _ b _ ⟨#[114, 101, 97, 100]⟩ H1.out.bd (by have := HLL.out; show _ + 4 ≤ _; omega)).mono ?_
  rintro e w2 he
  have hx := H1.out.step he
  obtain ⟨rfl, -⟩ := he
  obtain ⟨A2, hA2⟩ : ∃ A2, A2 = acc ++ [114, 101, 97, 100] := ⟨_, rfl⟩
  have LE2 : Hid (A2 = acc ++ [114, 101, 97, 100] ∧ A2.length ≤ acc.length + 4) := ⟨hA2, by rw [hA2, List.length_append]; simp⟩
  rw [← hA2] at hx
  clear hA2
  have H2 : Hid (Bx w0 w w2 b Z #[.int .i64 ek, .int .i64 ecl, .int .i64 et, .int .u64 (ei : Nat), .slice po pn pc, .slice ko kn kc, .int .i64 ax, .int .i64 ar, .int .u64 (ai : Nat), .slice vo vn vc] 36 A2) := hx
  clear z0 z1 z2 z3 z4 z5 z6 z7 z8 z9 H1
  obtain ⟨z0, z1, z2, z3, z4, z5, z6, z7, z8, z9⟩ := HC.out hx
  clear hx
  go_wp2_with fail
  go_loopw [11] (fun s11 wr => ∃ k : Nat, k ≤ kn ∧ s11 = .int .i64 (k : Nat) ∧ Hid (Bd w0 wr b (A2 ++ keysW (ks.take k)) ∧ Bo b w wr)) (fun s11 _ => kn - (intOf s11).toNat)
  case atStart => exact ⟨0, by omega, rfl, by simpa [keysW] using H2.out.bd, H2.out.bo⟩
  case round =>
    rename World => wr
    obtain ⟨k, hkk, rfl, HR⟩ := hrel
    by_cases hlt : k < kn
    · have hlt' : (k : Int) < kn := by omega
      have hkl : k < ks.length := by have := HP.out.1; omega
      obtain ⟨g, off, rfl, hc⟩ := (HP.out.2.keepsN HR.out.1.kp).at hkl
      have HRM : Hid ((A2 ++ keysW (ks.take k)).length + wtT (ks.getD k e0) + 1 ≤ 140737488355328) := by
        show _ ≤ _
        have h1 := flat_room (keyW 32) (fun k => wtT k + 1) e0 ks k hkl (fun k _ => keyW_wt 32 k)
        rw [List.length_append]
        unfold keysW
        have := HLL.out
        have := LE2.out.2;
        omega
      have HSN : Hid (keysW (ks.take (k + 1)) = keysW (ks.take k) ++ keyW 32 (ks.getD k e0)) := flat_snoc _ e0 _ _ hkl
      generalize ks.getD k e0 = x at hc HRM HSN
      clear hkl
      go_wp2_with fail
      refine (writeByte_any w0 _ b _ 32 HR.out.1 (by have := HRM.out; omega)).mono ?_
      rintro e w8 ⟨rfl, h1, h2⟩
      have H8 : Hid (Bd w0 w8 b (A2 ++ keysW (ks.take k) ++ [32]) ∧ Bo b w w8) := ⟨h1, HR.out.2.trans h2⟩
      clear h1 h2 hc
      go_wp2_with fail
      refine (writeText_any w0 _ b _ H8.out.1 x (by have := HRM.out; unfold wtT at this; rw [List.length_append, List.length_singleton]; omega)).mono ?_
      rintro e w9 ⟨rfl, h1, h2⟩
      have HN : Hid (Bd w0 w9 b (A2 ++ keysW (ks.take (k + 1))) ∧ Bo b w w9) := by
        refine ⟨?_, H8.out.2.trans h2⟩
        rw [HSN.out]
        simpa [keyW] using h1
      clear h1 h2
      go_wp2_with fail
      go_roundw
      case rel => exact ⟨k + 1, by omega, by go_num, HN⟩
      case measure => first | (simp [intOf]; done) | (simp [intOf]; omega)
    · have hlt' : ¬ (k : Int) < kn := by omega
      have HE : Hid (Bd w0 wr b (acc ++ readW ks) ∧ Bo b w wr) := by
        refine ⟨?_, HR.out.2⟩
        have h9 := HR.out.1
        rw [List.take_of_length_le (by have := HP.out.1; omega), LE2.out.1] at h9
        unfold readW
        simpa using h9
      clear HR
      go_wp2_with fail
      go_end0
      exact ⟨rfl, HE.out.1, HE.out.2⟩
set_option maxRecDepth 10000 in
set_option maxHeartbeats 4000000 in
theorem writeWrite_any (w0 w : World) (b : Nat) (acc : List UInt8) (h : Bd w0 w b acc) (hp : PowIn w0) (ek ecl et : Int) (ei : Nat) (po : Option Addr) (pn pc : Nat) (ko : Option Addr) (kn kc : Nat) (ax ar : Int) (ai : Nat) (vo : Option Addr) (vn vc : Nat) (ps : List Pr) (hi : ei < 18446744073709551616) (hn : pn = ps.length) (hs : Sl PE w0 po pc ps) (hl : acc.length + (ps.map wtP).sum + 50 ≤ 140737488355328) (hk : ps.length ≤ 4398046511000) :
    Calls Tryz.prog 40 #[.pointer (some ⟨b, 0, none⟩), .agg #[.int .i64 ek, .int .i64 ecl, .int .i64 et, .int .u64 (ei : Nat), .slice po pn pc, .slice ko kn kc, .int .i64 ax, .int .i64 ar, .int .u64 (ai : Nat), .slice vo vn vc]] w (Wr0 w0 w b acc (writeW ei ps)) := by
  have HP : Hid (PowIn w0 ∧ pn = ps.length ∧ Sl PE w0 po pc ps ∧ ei < 18446744073709551616) := ⟨hp, hn, hs, hi⟩
  have HLL : Hid (acc.length + (ps.map wtP).sum + 50 ≤ 140737488355328) := hl
  have hnb : (pn : Int) ≤ 4398046511000 := by omega
  obtain ⟨Z, hZ⟩ : ∃ Z, Z = w.heap.size := ⟨_, rfl⟩
  have HX : Hid (∀ W, W = w.alloc (.cells #[.int .i64 ek, .int .i64 ecl, .int .i64 et, .int .u64 (ei : Nat), .slice po pn pc, .slice ko kn kc, .int .i64 ax, .int .i64 ar, .int .u64 (ai : Nat), .slice vo vn vc] 36) → Bx w0 w W b Z #[.int .i64 ek, .int .i64 ecl, .int .i64 et, .int .u64 (ei : Nat), .slice po pn pc, .slice ko kn kc, .int .i64 ax, .int .i64 ar, .int .u64 (ai : Nat), .slice vo vn vc] 36 acc) := by
    rintro W rfl
    rw [hZ]
    exact bx_new h _ _ (by decide)
  clear h hp hi hn hs hl hk
  have HC : Hid (∀ {W : World} {A : List UInt8}, Bx w0 w W b Z #[.int .i64 ek, .int .i64 ecl, .int .i64 et, .int .u64 (ei : Nat), .slice po pn pc, .slice ko kn kc, .int .i64 ax, .int .i64 ar, .int .u64 (ai : Nat), .slice vo vn vc] 36 A → W.cell? ⟨Z, 0, none⟩ = some (.int .i64 ek) ∧ W.cell? ⟨Z, 1, none⟩ = some (.int .i64 ecl) ∧ W.cell? ⟨Z, 2, none⟩ = some (.int .i64 et) ∧ W.cell? ⟨Z, 3, none⟩ = some (.int .u64 (ei : Nat)) ∧ W.cell? ⟨Z, 4, none⟩ = some (.slice po pn pc) ∧ W.cell? ⟨Z, 5, none⟩ = some (.slice ko kn kc) ∧ W.cell? ⟨Z, 6, none⟩ = some (.int .i64 ax) ∧ W.cell? ⟨Z, 7, none⟩ = some (.int .i64 ar) ∧ W.cell? ⟨Z, 8, none⟩ = some (.int .u64 (ai : Nat)) ∧ W.cell? ⟨Z, 9, none⟩ = some (.slice vo vn vc)) := fun {W A} hW => by
    rw [cell_of_blk hW.blk, cell_of_blk hW.blk, cell_of_blk hW.blk, cell_of_blk hW.blk, cell_of_blk hW.blk, cell_of_blk hW.blk, cell_of_blk hW.blk, cell_of_blk hW.blk, cell_of_blk hW.blk, cell_of_blk hW.blk]
    exact ⟨rfl, rfl, rfl, rfl, rfl, rfl, rfl, rfl, rfl, rfl⟩
  go_enter Tryz.func40, Tryz.ntmps40
  go_upto_region 1 with fail
  have h1 := HX.out _ rfl
  rw [← hZ]
  clear hZ HX
  generalize w.alloc (.cells #[.int .i64 ek, .int .i64 ecl, .int .i64 et, .int .u64 (ei : Nat), .slice po pn pc, .slice ko kn kc, .int .i64 ax, .int .i64 ar, .int .u64 (ai : Nat), .slice vo vn vc] 36) = w1 at h1 ⊢
  have H1 : Hid (Bx w0 w w1 b Z #[.int .i64 ek, .int .i64 ecl, .int .i64 et, .int .u64 (ei : Nat), .slice po pn pc, .slice ko kn kc, .int .i64 ax, .int .i64 ar, .int .u64 (ai : Nat), .slice vo vn vc] 36 acc) := h1
  obtain ⟨z0, z1, z2, z3, z4, z5, z6, z7, z8, z9⟩ := HC.out h1
  clear h1
  go_wp2_with fail
  refine (writeString_any w0 _ b _ ⟨#[119, 114, 105, 116, 101]⟩ H1.out.bd (by have := HLL.out; show _ + 5 ≤ _; omega)).mono ?_
  rintro e w2 he
  have hx := H1.out.step he
  obtain ⟨rfl, -⟩ := he
  obtain ⟨A2, hA2⟩ : ∃ A2, A2 = acc ++ [119, 114, 105, 116, 101] := ⟨_, rfl⟩
  have LE2 : Hid (A2 = acc ++ [119, 114, 105, 116, 101] ∧ A2.length ≤ acc.length + 5) := ⟨hA2, by rw [hA2, List.length_append]; simp⟩
  rw [← hA2] at hx
  clear hA2
  have H2 : Hid (Bx w0 w w2 b Z #[.int .i64 ek, .int .i64 ecl, .int .i64 et, .int .u64 (ei : Nat), .slice po pn pc, .slice ko kn kc, .int .i64 ax, .int .i64 ar, .int .u64 (ai : Nat), .slice vo vn vc] 36 A2) := hx
  clear z0 z1 z2 z3 z4 z5 z6 z7 z8 z9 H1
  obtain ⟨z0, z1, z2, z3, z4, z5, z6, z7, z8, z9⟩ := HC.out hx
  clear hx
  go_wp2_with fail
  refine (writeByte_any w0 _ b _ 32 H2.out.bd (by have := HLL.out; have := LE2.out.2; omega)).mono ?_
  rintro e w3 he
  have hx := H2.out.step he
  obtain ⟨rfl, -⟩ := he
  obtain ⟨A3, hA3⟩ : ∃ A3, A3 = A2 ++ [32] := ⟨_, rfl⟩
  have LE3 : Hid (A3 = A2 ++ [32] ∧ A3.length ≤ A2.length + 1) := ⟨hA3, by rw [hA3, List.length_append]; simp⟩
  rw [← hA3] at hx
  clear hA3
  have H3 : Hid (Bx w0 w w3 b Z #[.int .i64 ek, .int .i64 ecl, .int .i64 et, .int .u64 (ei : Nat), .slice po pn pc, .slice ko kn kc, .int .i64 ax, .int .i64 ar, .int .u64 (ai : Nat), .slice vo vn vc] 36 A3) := hx
  clear z0 z1 z2 z3 z4 z5 z6 z7 z8 z9 H2
  obtain ⟨z0, z1, z2, z3, z4, z5, z6, z7, z8, z9⟩ := HC.out hx
  clear hx
  go_wp2_with fail
  refine (writeNumber_any w0 _ b _ H3.out.bd (HP.out.1.keepsN H3.out.bd.kp) ei HP.out.2.2.2 (by have := HLL.out; have := LE2.out.2; have := LE3.out.2; omega)).mono ?_
  rintro e w4 he
  have hx := H3.out.step he
  obtain ⟨rfl, -⟩ := he
  obtain ⟨A4, hA4⟩ : ∃ A4, A4 = A3 ++ numW ei := ⟨_, rfl⟩
  have LE4 : Hid (A4 = A3 ++ numW ei ∧ A4.length ≤ A3.length + 20) := ⟨hA4, by rw [hA4, List.length_append]; have := numW_len HP.out.2.2.2; omega⟩
  rw [← hA4] at hx
  clear hA4
  have H4 : Hid (Bx w0 w w4 b Z #[.int .i64 ek, .int .i64 ecl, .int .i64 et, .int .u64 (ei : Nat), .slice po pn pc, .slice ko kn kc, .int .i64 ax, .int .i64 ar, .int .u64 (ai : Nat), .slice vo vn vc] 36 A4) := hx
  clear z0 z1 z2 z3 z4 z5 z6 z7 z8 z9 H3
  obtain ⟨z0, z1, z2, z3, z4, z5, z6, z7, z8, z9⟩ := HC.out hx
  clear hx
  go_wp2_with fail
  go_loopw [17] (fun s17 wr => ∃ k : Nat, k ≤ pn ∧ s17 = .int .i64 (k : Nat) ∧ Hid (Bd w0 wr b (A4 ++ pairsW (ps.take k)) ∧ Bo b w wr)) (fun s17 _ => pn - (intOf s17).toNat)
  case atStart => exact ⟨0, by omega, rfl, by simpa [pairsW] using H4.out.bd, H4.out.bo⟩
  case round =>
    rename World => wr
    obtain ⟨k, hkk, rfl, HR⟩ := hrel
    by_cases hlt : k < pn
    · have hlt' : (k : Int) < pn := by omega
      have hkl : k < ps.length := by have := HP.out.2.1; omega
      obtain ⟨g, off, rfl, c0, c1⟩ := (HP.out.2.2.1.keepsN HR.out.1.kp).atP hkl
      have HRM : Hid ((A4 ++ pairsW (ps.take k)).length + wtP (ps.getD k p0) ≤ 140737488355328) := by
        show _ ≤ _
        have h1 := flat_room pairW wtP p0 ps k hkl (fun p _ => pairW_wt p)
        rw [List.length_append]
        unfold pairsW
        have := HLL.out
        have := LE2.out.2; have := LE3.out.2; have := LE4.out.2;
        omega
      have HSN : Hid (pairsW (ps.take (k + 1)) = pairsW (ps.take k) ++ pairW (ps.getD k p0)) := flat_snoc _ p0 _ _ hkl
      generalize ps.getD k p0 = x at c0 c1 HRM HSN
      clear hkl
      obtain ⟨x1, x2⟩ := x
      simp only at c0 c1
      obtain ⟨Y, hY⟩ : ∃ Y, Y = wr.heap.size := ⟨_, rfl⟩
      have HX : Hid (∀ W, W = wr.alloc (.cells #[.string x1, .string x2] 49) → Bx w0 wr W b Y #[.string x1, .string x2] 49 (A4 ++ pairsW (ps.take k))) := by
        rintro W rfl
        rw [hY]
        exact bx_new HR.out.1 _ _ (by decide)
      go_upto_region 7 with fail
      have hy := HX.out _ rfl
      rw [← hY]
      clear hY HX c0 c1
      generalize wr.alloc (.cells #[.string x1, .string x2] 49) = w7 at hy ⊢
      have HY : Hid (Bx w0 wr w7 b Y #[.string x1, .string x2] 49 (A4 ++ pairsW (ps.take k))) := hy
      have y0 : w7.cell? ⟨Y, 0, none⟩ = some (.string x1) := by rw [cell_of_blk hy.blk]; rfl
      have y1 : w7.cell? ⟨Y, 1, none⟩ = some (.string x2) := by rw [cell_of_blk hy.blk]; rfl
      clear hy
      go_wp2_with fail
      refine (writeByte_any w0 _ b _ 32 HY.out.bd (by have := HRM.out; unfold wtP wtT at this; simp only [List.length_append, List.length_singleton] at this ⊢; have := textW_len x1.data.toList; have e1 : x1.data.toList.length = x1.size := Array.length_toList; omega)).mono ?_
      rintro e w8 he
      have hy := HY.out.step he
      obtain ⟨rfl, -⟩ := he
      clear HY y0 y1
      have HY : Hid (Bx w0 wr w8 b Y #[.string x1, .string x2] 49 (A4 ++ pairsW (ps.take k) ++ [32])) := hy
      have y0 : w8.cell? ⟨Y, 0, none⟩ = some (.string x1) := by rw [cell_of_blk hy.blk]; rfl
      have y1 : w8.cell? ⟨Y, 1, none⟩ = some (.string x2) := by rw [cell_of_blk hy.blk]; rfl
      clear hy
      go_wp2_with fail
      refine (writeText_any w0 _ b _ HY.out.bd x1 (by have := HRM.out; unfold wtP wtT at this; simp only [List.length_append, List.length_singleton] at this ⊢; have := textW_len x1.data.toList; have e1 : x1.data.toList.length = x1.size := Array.length_toList; omega)).mono ?_
      rintro e w9 he
      have hy := HY.out.step he
      obtain ⟨rfl, -⟩ := he
      clear HY y0 y1
      have HY : Hid (Bx w0 wr w9 b Y #[.string x1, .string x2] 49 (A4 ++ pairsW (ps.take k) ++ [32] ++ textW x1.data.toList)) := hy
      have y0 : w9.cell? ⟨Y, 0, none⟩ = some (.string x1) := by rw [cell_of_blk hy.blk]; rfl
      have y1 : w9.cell? ⟨Y, 1, none⟩ = some (.string x2) := by rw [cell_of_blk hy.blk]; rfl
      clear hy
      go_wp2_with fail
      refine (writeByte_any w0 _ b _ 61 HY.out.bd (by have := HRM.out; unfold wtP wtT at this; simp only [List.length_append, List.length_singleton] at this ⊢; have := textW_len x1.data.toList; have e1 : x1.data.toList.length = x1.size := Array.length_toList; omega)).mono ?_
      rintro e w10 he
      have hy := HY.out.step he
      obtain ⟨rfl, -⟩ := he
      clear HY y0 y1
      have HY : Hid (Bx w0 wr w10 b Y #[.string x1, .string x2] 49 (A4 ++ pairsW (ps.take k) ++ [32] ++ textW x1.data.toList ++ [61])) := hy
      have y0 : w10.cell? ⟨Y, 0, none⟩ = some (.string x1) := by rw [cell_of_blk hy.blk]; rfl
      have y1 : w10.cell? ⟨Y, 1, none⟩ = some (.string x2) := by rw [cell_of_blk hy.blk]; rfl
      clear hy
      go_wp2_with fail
      refine (writeText_any w0 _ b _ HY.out.bd x2 (by have := HRM.out; unfold wtP wtT at this; simp only [List.length_append, List.length_singleton] at this ⊢; have := textW_len x1.data.toList; have e1 : x1.data.toList.length = x1.size := Array.length_toList; omega)).mono ?_
      rintro e w11 he
      have hy := HY.out.step he
      obtain ⟨rfl, -⟩ := he
      have HN : Hid (Bd w0 w11 b (A4 ++ pairsW (ps.take (k + 1))) ∧ Bo b w w11) := by
        refine ⟨?_, HR.out.2.trans hy.bo⟩
        rw [HSN.out]
        have := hy.bd
        simpa [pairW] using this
      clear hy HY y0 y1
      go_wp2_with fail
      go_roundw
      case rel => exact ⟨k + 1, by omega, by go_num, HN⟩
      case measure => first | (simp [intOf]; done) | (simp [intOf]; omega)
    · have hlt' : ¬ (k : Int) < pn := by omega
      have HE : Hid (Bd w0 wr b (acc ++ writeW ei ps) ∧ Bo b w wr) := by
        refine ⟨?_, HR.out.2⟩
        have h9 := HR.out.1
        rw [List.take_of_length_le (by have := HP.out.2.1; omega), LE4.out.1, LE3.out.1, LE2.out.1] at h9
        unfold writeW
        simpa using h9
      clear HR
      go_wp2_with fail
      go_end0
      exact ⟨rfl, HE.out.1, HE.out.2⟩
end Go.Proofs.YtjkljljmjjnneaaGreatDoor
