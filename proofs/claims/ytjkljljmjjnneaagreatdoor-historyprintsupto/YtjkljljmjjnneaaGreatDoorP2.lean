/- readText, readTexts. -/
import Derived.Test.YtjkljljmjjnneaaGreatDoorP1
import Derived.Laws.MakeOwn
import Derived.Laws.BytesString
namespace Go.Proofs.YtjkljljmjjnneaaGreatDoor
open Go.RowKit Go.Sort Orl
set_option linter.unusedVariables false
set_option linter.unusedSimpArgs false

def BE : El UInt8 := ⟨5, 69, 1, 1, fun c => [.int .u8 (c.toNat : Nat)]⟩
theorem infoB : (Tryz.prog.info? 5).map (fun i => (i.zero, i.size, i.bytes)) = some (some (.int .u8 0), 1, 1) := by kernel_rfl
theorem okB : BE.Ok := by
  obtain ⟨i0, hi, hz0, hz1, hz2⟩ := info_parts infoB
  exact ⟨fun _ => rfl, fun x u hu => by simp [BE] at hu; subst hu; rfl, by decide, Tryz.underlying69, i0, _, hi, hz0, hz1, hz2, rfl⟩
theorem makeB (w : World) (n : Nat) (h : n ≤ 140737488355328) : ∃ w', (Instr.makeSlice 69 (.int .i64 0) (.int .i64 (n : Int))).run Tryz.prog w = .ok (.slice (some ⟨w.heap.size, 0, none⟩) 0 n) w' ∧ Own BE w' (some ⟨w.heap.size, 0, none⟩) n [] ∧ Keeps no w w' := by
  obtain ⟨i0, hi, hz0, hz1, hz2⟩ := info_parts infoB
  obtain ⟨w', hr, ho, hg⟩ := run_make_own (P := Tryz.prog) w 0 69 5 i0 _ 1 Tryz.underlying69 hi hz0 hz1 .i64 .i64 n (by rw [hz2]; omega) (by unfold maxLen; omega) (Nat.zero_le _)
  exact ⟨w', hr, ho, (Keeps.refl _ _).grown hg (fun k hk => by cases hk)⟩
theorem convB {w : World} {g c : Nat} {l : List UInt8} (h : Own BE w (some ⟨g, 0, none⟩) c l) : (convert 69 9 (.slice (some ⟨g, 0, none⟩) l.length c)).run Tryz.prog w = .ok (.string ⟨l.toArray⟩) w := by
  refine run_convert_bytes_back (P := Tryz.prog) w 69 9 5 ⟨g, 0, none⟩ c l Tryz.underlying69 Tryz.underlying5 Tryz.underlying9 (fun j hj => ?_)
  have h1 := h.row.news j (.int .u8 ((l.getD j 0).toNat : Nat)) (by
    have h2 := cells_at okB (0 : UInt8) l j 0 hj (by decide)
    simpa [BE] using h2)
  rw [h1]
  simp [List.getD_eq_getElem?_getD, hj]
theorem lit_one {α : Type} {E : El α} (w : World) (x : α) (cs : Array Value) (hc : cs.toList = E.enc x) : Sl E (w.alloc (.cells cs E.e)) (some ⟨w.heap.size, 0, none⟩) 1 [x] :=
  ⟨.inr ⟨w.heap.size, 0, rfl, fun j u hj => by
    rw [cell_of_blk (blk_new w _), Nat.zero_add, ← Array.getElem?_toList, hc]
    simpa [El.cells] using hj⟩, by simp, by simp⟩
theorem ext_drop (s : ByteArray) (k : Nat) : (s.extract k s.size).data.toList = s.data.toList.drop k := by
  have e : s.data.toList.length = s.size := Array.length_toList
  rw [Lib.extract_data]
  exact List.take_of_length_le (by rw [List.length_drop]; omega)
/-- bytes as they are read -/
def bytesR : Nat → List UInt8 → Option (List UInt8)
  | 0, l => if l = [] then some [] else none
  | f + 1, l => if l = [] then some [] else if (byteR l).2 = 0 then none else (bytesR f (l.drop (byteR l).2)).map ((byteR l).1 :: ·)
theorem byteR_le (l : List UInt8) : (byteR l).2 ≤ l.length ∧ (byteR l).2 ≤ 3 := by
  unfold byteR
  split
  · simp
  · split
    · simp
    · split
      · simp
      · split
        · split
          · simp
          · split
            · simp
            · split <;> simp
        · simp
theorem bytesR_more : ∀ (f g : Nat) (l : List UInt8), l.length ≤ f → l.length ≤ g → bytesR f l = bytesR g l
  | 0, 0, l, _, _ => rfl
  | 0, g + 1, l, h, _ => by
    have e : l = [] := List.length_eq_zero_iff.1 (by omega)
    subst e; rfl
  | f + 1, 0, l, _, h => by
    have e : l = [] := List.length_eq_zero_iff.1 (by omega)
    subst e; rfl
  | f + 1, g + 1, l, h1, h2 => by
    unfold bytesR
    split
    · rfl
    · split
      · rfl
      · rename_i hn hz
        have hl : 0 < l.length := List.length_pos_iff.2 hn
        rw [bytesR_more f g _ (by rw [List.length_drop]; omega) (by rw [List.length_drop]; omega)]
def bR (l : List UInt8) : Option (List UInt8) := bytesR l.length l
theorem bR_nil : bR [] = some [] := rfl
theorem bR_step {l : List UInt8} (h : l ≠ []) : bR l = if (byteR l).2 = 0 then none else (bR (l.drop (byteR l).2)).map ((byteR l).1 :: ·) := by
  have hl : 0 < l.length := List.length_pos_iff.2 h
  unfold bR
  obtain ⟨m, hm⟩ : ∃ m, l.length = m + 1 := ⟨l.length - 1, by omega⟩
  rw [hm, bytesR, if_neg h]
  by_cases hz : (byteR l).2 = 0
  · rw [if_pos hz, if_pos hz]
  · rw [if_neg hz, if_neg hz, bytesR_more m _ (l.drop (byteR l).2) (by rw [List.length_drop]; omega) (Nat.le_refl _)]
/-- a text as it is read -/
def textR (l : List UInt8) : Option (List UInt8) := if l = [37] then some [] else if l = [] then none else bR l
def strLen : Value → Nat
  | .string s => s.size
  | _ => 0
set_option maxRecDepth 10000 in
theorem readText_any (w : World) (s : ByteArray) (hs : s.size ≤ 140737488355) :
    Calls Tryz.prog 87 #[.string s] w fun e w' => ∃ x : Tx, e = .returned (.tuple #[.string x, .bool (textR s.data.toList).isSome]) ∧ (∀ t, textR s.data.toList = some t → x.data.toList = t) ∧ Keeps no w w' := by
  have hd := data_len s
  have hsb : (s.size : Int) ≤ 140737488355 := by omega
  by_cases h37 : s.data.toList = [37]
  · have ht : (s.toList == ([37] : List UInt8)) = true := by rw [Lib.toList_data, h37]; rfl
    have HR : Hid (textR s.data.toList = some []) := by show _ = _; unfold textR; rw [if_pos h37]
    clear h37 hd
    go_enter Tryz.func87, Tryz.ntmps87
    go_wp2_with fail
    go_ret2
    exact ⟨⟨#[]⟩, by rw [HR.out]; rfl, (fun t e => by rw [HR.out] at e; injection e), Keeps.refl _ _⟩
  · have ht : (s.toList == ([37] : List UInt8)) = false := by rw [Lib.toList_data, beq_eq_false_iff_ne]; exact h37
    by_cases h0 : s.data.toList = []
    · have ht0 : (s.toList == ([] : List UInt8)) = true := by rw [Lib.toList_data, h0]; rfl
      have HR : Hid (textR s.data.toList = none) := by show _ = _; unfold textR; rw [if_neg h37, if_pos h0]
      clear h37 h0 hd
      go_enter Tryz.func87, Tryz.ntmps87
      go_wp2_with fail
      go_ret2
      exact ⟨⟨#[]⟩, by rw [HR.out]; rfl, (fun t e => by rw [HR.out] at e; cases e), Keeps.refl _ _⟩
    · have ht0 : (s.toList == ([] : List UInt8)) = false := by rw [Lib.toList_data, beq_eq_false_iff_ne]; exact h0
      have HR : Hid (textR s.data.toList = bR s.data.toList) := by show _ = _; unfold textR; rw [if_neg h37, if_neg h0]
      obtain ⟨w1, hr1, ho1, hk1⟩ := makeB w s.size (by omega)
      have H1 : Hid (Own BE w1 (some ⟨w.heap.size, 0, none⟩) s.size [] ∧ Keeps no w w1) := ⟨ho1, hk1⟩
      clear h37 h0 ho1 hk1 hd
      go_enter Tryz.func87, Tryz.ntmps87
      go_wp2_with fail
      go_loopw [0, 4] (fun s0 s4 wr => ∃ (rem : ByteArray) (g c : Nat) (out : List UInt8), s0 = .string rem ∧ s4 = .slice (some ⟨g, 0, none⟩) out.length c ∧ out.length + rem.size ≤ s.size ∧ Hid (Own BE wr (some ⟨g, 0, none⟩) c out ∧ w.heap.size ≤ g ∧ Keeps no w wr ∧ textR s.data.toList = (bR rem.data.toList).map (out ++ ·))) (fun s0 _ _ => strLen s0)
      case atStart => exact ⟨s, _, _, [], rfl, rfl, Nat.le_of_eq (Nat.zero_add _), H1.out.1, Nat.le_refl _, H1.out.2, by rw [HR.out]; cases bR s.data.toList with | none => rfl | some x => rfl⟩
      case round =>
        rename World => wr
        clear H1 ht ht0 hr1
        obtain ⟨rem, g, c, out, rfl, rfl, hle, HO⟩ := hrel
        by_cases h0 : rem.data.toList = []
        · have ht0 : (rem.toList == ([] : List UInt8)) = true := by rw [Lib.toList_data, h0]; rfl
          have HE : Hid (textR s.data.toList = some out ∧ Keeps no w wr) := by
            refine ⟨?_, HO.out.2.2.1⟩
            rw [HO.out.2.2.2, h0, bR_nil]
            simp
          have hcv := convB HO.out.1
          clear h0 HO HR
          go_wp2_with fail
          go_ret2
          exact ⟨⟨out.toArray⟩, by rw [HE.out.1]; rfl, (fun t e => by rw [HE.out.1] at e; injection e), HE.out.2⟩
        · have ht0 : (rem.toList == ([] : List UInt8)) = false := by rw [Lib.toList_data, beq_eq_false_iff_ne]; exact h0
          have hrd := data_len rem
          have hr1 : 1 ≤ rem.size := by have := List.length_pos_iff.2 h0; omega
          have HB : Hid (Calls Tryz.prog 103 #[.string rem] wr fun e w' => e = .returned (.tuple #[.int .u8 ((byteR rem.data.toList).1.toNat : Nat), .int .i64 ((byteR rem.data.toList).2 : Nat)]) ∧ Keeps no wr w') := readByte_any wr rem hr1 (by omega)
          have hst := bR_step h0
          have hbl := byteR_le rem.data.toList
          rw [hrd] at hbl
          generalize byteR rem.data.toList = R at HB hst hbl
          obtain ⟨b, k⟩ := R
          simp only at HB hst hbl
          by_cases hk : k = 0
          · subst hk
            have HE : Hid (textR s.data.toList = none) := by
              show _ = _
              rw [HO.out.2.2.2, hst, if_pos rfl]
              rfl
            clear h0 hrd hst
            go_wp2_with fail
            refine HB.out.mono ?_
            rintro e w2 ⟨rfl, hk2⟩
            have HK2 : Hid (Keeps no w w2) := HO.out.2.2.1.trans hk2
            clear hk2
            go_wp2_with fail
            go_ret2
            exact ⟨⟨#[]⟩, by rw [HE.out]; rfl, (fun t e => by rw [HE.out] at e; cases e), HK2.out⟩
          · have hk' : ¬ ((k : Nat) : Int) = 0 := by omega
            rw [if_neg hk] at hst
            have hk1 : (k : Int) ≤ rem.size := by omega
            have hk0 : (0 : Int) ≤ (k : Int) := by omega
            have HN : Hid (textR s.data.toList = (bR (rem.extract k rem.size).data.toList).map (out ++ [b] ++ ·)) := by
              show _ = _
              rw [HO.out.2.2.2, hst, ext_drop]
              cases bR (rem.data.toList.drop k) <;> simp
            have hes : (rem.extract k rem.size).size = rem.size - k := by rw [ByteArray.size_extract]; omega
            obtain ⟨rem2, hrem2⟩ : ∃ r2, r2 = rem.extract k rem.size := ⟨_, rfl⟩
            clear h0 hrd hst
            go_wp2_with fail
            refine HB.out.mono ?_
            rintro e w2 ⟨rfl, hk2⟩
            have HK2 : Hid (Own BE w2 (some ⟨g, 0, none⟩) c out ∧ Keeps no w w2) := ⟨HO.out.1.keepsN hk2, HO.out.2.2.1.trans hk2⟩
            have HLT : Hid (Own BE (w2.alloc (.cells #[.int .u8 (b.toNat : Nat)] 5)) (some ⟨g, 0, none⟩) c out ∧ Row BE (w2.alloc (.cells #[.int .u8 (b.toNat : Nat)] 5)) (some ⟨w2.heap.size, 0, none⟩) [b]) := ⟨HK2.out.1.keepsN ((Keeps.refl _ _).alloc _), (lit_one (E := BE) w2 b #[.int .u8 (b.toNat : Nat)] rfl).row⟩
            clear hk2
            go_wp2_with (at_builtin; refine wpList_app okB rfl _ _ rfl _ _ _ out rfl rfl HLT.out.1 _ _ _ [b] rfl rfl (fun h => by cases h) HLT.out.2 (by simp [BE]; omega) (by simp; omega) ?_; intro o6 c6 w6 ho6 hap6)
            have HG : Hid (∃ g', o6 = some ⟨g', 0, none⟩ ∧ w.heap.size ≤ g' ∧ Own BE w6 (some ⟨g', 0, none⟩) c6 (out ++ [b]) ∧ Keeps no w w6) := by
              have hk0' : Keeps no w (w2.alloc (.cells #[.int .u8 (b.toNat : Nat)] 5)) := HK2.out.2.trans ((Keeps.refl _ _).alloc _)
              have hn := hap6.new (w0 := w) (fun q hq => by obtain ⟨x, e, rfl⟩ := hq; cases e; exact HO.out.2.1) hk0'
              rcases hap6 with ⟨rfl, _⟩ | ⟨⟨g', rfl, _⟩, _⟩
              · exact ⟨g, rfl, HO.out.2.1, ho6, hn.2⟩
              · exact ⟨g', rfl, hn.1 g' ⟨_, rfl, rfl⟩, ho6, hn.2⟩
            clear ho6 hap6
            obtain ⟨g', rfl, hg'⟩ := HG.out
            have HG2 : Hid (w.heap.size ≤ g' ∧ Own BE w6 (some ⟨g', 0, none⟩) c6 (out ++ [b]) ∧ Keeps no w w6) := hg'
            clear HG hg'
            go_roundw
            case rel => exact ⟨_, g', c6, out ++ [b], rfl, by rw [List.length_append, List.length_singleton], by rw [List.length_append, List.length_singleton, hes]; omega, HG2.out.2.1, HG2.out.1, HG2.out.2.2, HN.out⟩
            case measure => show (rem.extract k rem.size).size < rem.size; omega
/-! ### texts -/
def bts (l : List Tx) : List (List UInt8) := l.map fun x => x.data.toList
/-- texts as they are read -/
def textsR : List (List UInt8) → Option (List (List UInt8))
  | [] => some []
  | x :: l => match textR x with
    | none => none
    | some t => (textsR l).map (t :: ·)
theorem textsR_take {l : List (List UInt8)} {k : Nat} (hk : k < l.length) {ts : List (List UInt8)} (h : textsR (l.take k) = some ts) : (textR (l.getD k []) = none → textsR l = none) ∧ (∀ t, textR (l.getD k []) = some t → textsR (l.take (k + 1)) = some (ts ++ [t])) := by
  induction l generalizing k ts with
  | nil => simp at hk
  | cons x l ih =>
    cases k with
    | zero =>
      simp only [List.take_zero, textsR, Option.some.injEq] at h
      subst h
      refine ⟨fun h => ?_, fun t h => ?_⟩
      · have h' : textR x = none := h
        rw [textsR, h']
      · have h' : textR x = some t := h
        simp only [List.take_succ_cons, List.take_zero, textsR, h']
        rfl
    | succ k =>
      rw [List.take_succ_cons, textsR] at h
      cases hx : textR x with
      | none => rw [hx] at h; cases h
      | some t0 =>
        rw [hx] at h
        simp only at h
        cases hl : textsR (l.take k) with
        | none => rw [hl] at h; cases h
        | some ts0 =>
          rw [hl] at h
          simp only [Option.map_some, Option.some.injEq] at h
          subst h
          have ih2 := ih (k := k) (by simpa using hk) hl
          refine ⟨fun h => ?_, fun t h => ?_⟩
          · rw [textsR, hx]
            simp only
            rw [ih2.1 (by simpa using h)]
            rfl
          · rw [List.take_succ_cons, textsR, hx]
            simp only
            rw [ih2.2 t (by simpa using h)]
            rfl
theorem bts_getD (l : List Tx) (k : Nat) (h : k < l.length) : (bts l).getD k [] = (l.getD k e0).data.toList := by
  unfold bts
  simp [List.getD_eq_getElem?_getD, h]
/-- what readTexts tells -/
def TxTo (w : World) (r : Option (List (List UInt8))) (e : Ending) (w' : World) : Prop := ∃ o n c ys, e = .returned (.tuple #[.slice o n c, .bool r.isSome]) ∧ n = ys.length ∧ Own TE w' o c ys ∧ New w o ∧ Keeps no w w' ∧ (∀ ts, r = some ts → bts ys = ts) ∧ (r = none → o = none)
set_option maxRecDepth 10000 in
theorem readTexts_any (w : World) (o : Option Addr) (n c : Nat) (xs : List Tx) (hn : n = xs.length) (hs : Sl TE w o c xs) (hz : ∀ x ∈ xs, x.size ≤ 140737488355) (hb : xs.length ≤ 1099511627000) :
    Calls Tryz.prog 68 #[.slice o n c] w (TxTo w (textsR (bts xs))) := by
  have HP : Hid (n = xs.length ∧ Sl TE w o c xs ∧ ∀ x ∈ xs, x.size ≤ 140737488355) := ⟨hn, hs, hz⟩
  have hnb : (n : Int) ≤ 1099511627000 := by omega
  have HNB : Hid (n ≤ 1099511627000) := by show _ ≤ _; omega
  clear hn hs hz hb
  go_enter Tryz.func68, Tryz.ntmps68
  go_wp2_with fail
  go_loopw [4, 11] (fun s4 s11 wr => ∃ (k : Nat) (ob : Option Addr) (cb : Nat) (ys : List Tx), k ≤ n ∧ s11 = .int .i64 (k : Nat) ∧ s4 = .slice ob k cb ∧ Hid (Own TE wr ob cb ys ∧ New w ob ∧ Keeps no w wr ∧ textsR ((bts xs).take k) = some (bts ys) ∧ k = ys.length)) (fun _ s11 _ => n - (intOf s11).toNat)
  case atStart => exact ⟨0, none, 0, [], by omega, rfl, rfl, own_nil w, new_none w, Keeps.refl _ _, rfl, rfl⟩
  case round =>
    rename World => wr
    obtain ⟨k, ob, cb, ys, hkk, rfl, rfl, HO⟩ := hrel
    by_cases hlt : k < n
    · have hlt' : (k : Int) < n := by omega
      have hkl : k < xs.length := by have := HP.out.1; omega
      have hkb : k < (bts xs).length := by unfold bts; rw [List.length_map]; exact hkl
      obtain ⟨g, off, rfl, hc⟩ := (HP.out.2.1.keepsN HO.out.2.2.1).at hkl
      have htk := textsR_take hkb HO.out.2.2.2.1
      rw [bts_getD _ _ hkl] at htk
      have hxz := HP.out.2.2 _ (getD_mem_lt e0 hkl)
      generalize xs.getD k e0 = x at hc htk hxz
      have HX := readText_any wr x hxz
      have HTK : Hid ((textR x.data.toList = none → textsR (bts xs) = none) ∧ ∀ t, textR x.data.toList = some t → textsR (List.take (k + 1) (bts xs)) = some (bts ys ++ [t])) := htk
      clear htk hkl hkb hxz
      go_wp2_with fail
      refine HX.mono ?_
      rintro e w2 ⟨y, rfl, hy, hk2⟩
      have HK2 : Hid (Own TE w2 ob cb ys ∧ Keeps no w w2) := ⟨HO.out.1.keepsN hk2, HO.out.2.2.1.trans hk2⟩
      have HY : Hid (∀ t, textR x.data.toList = some t → y.data.toList = t) := hy
      clear hy hk2 HX hc
      cases hr : textR x.data.toList with
      | none =>
        have HE : Hid (textsR (bts xs) = none) := HTK.out.1 hr
        clear hr HTK HY
        go_wp2_with fail
        go_ret2
        exact ⟨none, 0, 0, [], by rw [HE.out]; rfl, rfl, own_nil _, new_none _, HK2.out.2, (fun ts e => by rw [HE.out] at e; cases e), fun _ => rfl⟩
      | some t =>
        have HE : Hid (textsR (List.take (k + 1) (bts xs)) = some (bts (ys ++ [y]))) := by
          show _ = _
          rw [HTK.out.2 t hr, ← HY.out t hr]
          unfold bts
          rw [List.map_append]; rfl
        clear hr HTK HY
        have HLT : Hid (Own TE (w2.alloc (.cells #[.string y] 9)) ob cb ys ∧ Row TE (w2.alloc (.cells #[.string y] 9)) (some ⟨w2.heap.size, 0, none⟩) [y]) := ⟨HK2.out.1.keepsN ((Keeps.refl _ _).alloc _), (lit_one (E := TE) w2 y #[.string y] rfl).row⟩
        go_wp2_with (at_builtin; refine wpList_app okT rfl _ _ rfl _ _ _ ys rfl HO.out.2.2.2.2 HLT.out.1 _ _ _ [y] rfl rfl (fun h => by cases h) HLT.out.2 (by have := HNB.out; have := HO.out.2.2.2.2; simp [TE]; omega) (by have := HNB.out; have := HO.out.2.2.2.2; simp; omega) ?_; intro o6 c6 w6 ho6 hap6)
        have HG : Hid (Own TE w6 o6 c6 (ys ++ [y]) ∧ New w o6 ∧ Keeps no w w6) := by
          have hn := hap6.new (w0 := w) HO.out.2.1 (HK2.out.2.trans ((Keeps.refl _ _).alloc _))
          exact ⟨ho6, hn.1, hn.2⟩
        clear ho6 hap6
        go_roundw
        case rel => exact ⟨k + 1, o6, c6, ys ++ [y], by omega, by go_num, rfl, HG.out.1, HG.out.2.1, HG.out.2.2, HE.out, by rw [List.length_append, List.length_singleton, ← HO.out.2.2.2.2]⟩
        case measure => first | (simp [intOf]; done) | (simp [intOf]; omega)
    · have hlt' : ¬ (k : Int) < n := by omega
      have HE : Hid (textsR (bts xs) = some (bts ys)) := by
        have h := HO.out.2.2.2.1
        rw [List.take_of_length_le (by unfold bts; rw [List.length_map]; have := HP.out.1; omega)] at h
        exact h
      go_wp2_with fail
      go_ret2
      exact ⟨ob, k, cb, ys, by rw [HE.out]; rfl, HO.out.2.2.2.2, HO.out.1, HO.out.2.1, HO.out.2.2.1, (fun ts e => by rw [HE.out] at e; injection e), (fun e => by rw [HE.out] at e; cases e)⟩
end Go.Proofs.YtjkljljmjjnneaaGreatDoor
