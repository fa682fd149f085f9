/- FrameBack: the walk. -/
import Derived.Test.YtaeajgjehfjkbaaC7
import Derived.Test.YtaeajgjehfjkbaaFr
namespace Go.Proofs.Ytaeajgjehfjkbaa
open Go.RowKit
set_option linter.unusedVariables false
set_option linter.unusedSimpArgs false

/-- the frames of bodies, one behind the other -/
def ff (l : List Bs) : Bs := (l.map fr).flatten
theorem ff_app (l m : List Bs) : ff (l ++ m) = ff l ++ ff m := by simp [ff]
theorem ff_len (l : List Bs) : (ff l).length = l.flatten.length + l.length * 4 := by
  induction l with
  | nil => rfl
  | cons x r ih => simp [ff, fr_len] at ih ⊢; omega
theorem ff_next (l : List Bs) (k : Nat) (h : k < l.length) : ff (l.take (k + 1)) = ff (l.take k) ++ fr (l.getD k []) := by
  rw [take_succ_getD l k [] h, ff_app]
  simp [ff]
theorem ff_le (l : List Bs) (k : Nat) : (ff (l.take k)).length ≤ (ff l).length := by
  have : ff l = ff (l.take k) ++ ff (l.drop k) := by rw [← ff_app, List.take_append_drop]
  rw [this, List.length_append]
  omega
theorem body_le (l : List Bs) (k : Nat) (h : k < l.length) : (l.getD k []).length ≤ l.flatten.length := by
  have := ff_next l k h
  have h1 := ff_le l (k + 1)
  rw [this, List.length_append, fr_len, ff_len, ff_len] at h1
  have e : l.flatten.length = (l.take k).flatten.length + (l.drop k).flatten.length := by
    rw [← List.length_append, ← List.flatten_append, List.take_append_drop]
  have e2 : l.drop k = l.getD k [] :: l.drop (k + 1) := by
    rw [List.drop_eq_getElem_cons h]; simp [List.getD_eq_getElem?_getD, h]
  rw [e, e2, List.flatten_cons, List.length_append]
  omega

structure BkI (w wr : World) (oA : Option Addr) (mA cA : Nat) (oW : Option Addr) (cW : Nat) (ls : List (LS UInt8)) (k : Nat) : Prop where
  m : mA = (ff ((bods ls).take k)).length
  a : Own BE wr oA cA (ff ((bods ls).take k))
  b : Own XE wr oW cW (ls.take k)
  nA : New w oA
  nW : New w oW
  kp : Keeps no w wr
theorem BkI.keepsN {w wr w' : World} {oA : Option Addr} {mA cA : Nat} {oW : Option Addr} {cW : Nat} {ls : List (LS UInt8)} {k : Nat} (h : BkI w wr oA mA cA oW cW ls k) (hk : Keeps no wr w') : BkI w w' oA mA cA oW cW ls k :=
  ⟨h.m, h.a.keepsN hk, h.b.keepsN hk, h.nA, h.nW, h.kp.trans hk⟩
/-- a growing slice of frames, relative to a world -/
structure BkJ (w wr : World) (oA : Option Addr) (mA cA : Nat) (l : List Bs) (k : Nat) : Prop where
  m : mA = (ff (l.take k)).length
  a : Own BE wr oA cA (ff (l.take k))
  nA : New w oA
  kp : Keeps no w wr

set_option maxRecDepth 100000 in
set_option maxHeartbeats 0 in
theorem frameBack_any (w : World) (a0 : Option Addr) (n0 c0 : Nat) (ls : List (LS UInt8)) (a1 : Option Addr) (n1 c1 : Nat) (ss : Bs) (hn0 : n0 = ls.length) (hn1 : n1 = ss.length) (hs0 : Bodies w a0 ls) (hs1 : Sl BE w a1 c1 ss) (hz : (bods ls).flatten.length + ls.length + ss.length ≤ 1048576) :
    Calls Try.prog 4 #[.slice a0 n0 c0, .slice a1 n1 c1] w fun e w' => e = .returned (.bool true) ∧ Keeps no w w' := by
  have HZ : Hid ((bods ls).flatten.length + ls.length + ss.length ≤ 1048576) := hz
  have HN0 : Hid (n0 = ls.length) := hn0
  have HN1 : Hid (n1 = ss.length) := hn1
  have HS0 : Hid (Bodies w a0 ls) := hs0
  have HS1 : Hid (Sl BE w a1 c1 ss) := hs1
  have hb0 : (n0 : Int) ≤ 1048576 := by omega
  have hb1 : (n1 : Int) ≤ 1048576 := by omega
  have HFF : Hid ((ff (bods ls)).length ≤ 5242880) := by show _ ≤ _; rw [ff_len, bods_len]; omega
  clear hz hn0 hn1 hs0 hs1
  go_enter Try.func4, Try.ntmps4
  go_wp2_with fail
  refine (alive_any w).mono ?_
  rintro e w1 ⟨rfl, hk1⟩
  have HI0 : Hid (BkI w w1 none 0 0 none 0 ls 0) := ⟨rfl, own_nil _, own_nil _, new_none _, new_none _, hk1⟩
  clear hk1
  go_wp2_with fail
  go_loopw [6, 7, 8] (fun a l i wr => ∃ (k mA : Nat) (oA : Option Addr) (cA : Nat) (oW : Option Addr) (cW : Nat), k ≤ n0 ∧ i = .int .i64 k ∧ a = .slice oA mA cA ∧ l = .slice oW k cW ∧ Hid (BkI w wr oA mA cA oW cW ls k)) (fun _ _ i _ => n0 - (intOf i).toNat)
  case atStart => exact ⟨0, 0, none, 0, none, 0, by omega, rfl, rfl, rfl, HI0⟩
  case round =>
    rename World => wr
    clear HI0
    obtain ⟨k, mA, oA, cA, oW, cW, hk, rfl, rfl, rfl, HI⟩ := hrel
    by_cases hlt : k < n0
    · have hkl : k < ls.length := by have := HN0.out; omega
      obtain ⟨b, off, rfl, hcell⟩ := rowX_at HS0.out.l hkl
      have hsl := HS0.out.x k hkl
      have hbody : ((bods ls).getD k []).length ≤ 1048576 := by have := body_le (bods ls) k (by rw [bods_len]; exact hkl); have := HZ.out; omega
      rw [bods_at] at hbody
      have hnext : ff ((bods ls).take (k + 1)) = ff ((bods ls).take k) ++ fr (ls.getD k ls0).xs := by rw [ff_next _ k (by rw [bods_len]; exact hkl), bods_at]
      have hle := ff_le (bods ls) (k + 1)
      have htk : ls.take (k + 1) = ls.take k ++ [ls.getD k ls0] := take_succ_getD ls k ls0 hkl
      obtain ⟨X, hX⟩ : ∃ X, X = ls.getD k ls0 := ⟨_, rfl⟩
      rw [← hX] at hcell hsl hbody hnext htk
      obtain ⟨nX, hnX⟩ : ∃ n, n = X.xs.length := ⟨_, rfl⟩
      rw [← hnX] at hcell hbody
      have HX : Hid (nX = X.xs.length) := hnX
      have HSX : Hid (Sl BE w X.o X.c X.xs) := hsl
      have HNX : Hid (ff ((bods ls).take (k + 1)) = ff ((bods ls).take k) ++ fr X.xs ∧ (ff ((bods ls).take (k + 1))).length ≤ 5242880) := ⟨hnext, by have := HFF.out; omega⟩
      have HTK : Hid (ls.take (k + 1) = ls.take k ++ [X]) := htk
      have HTL : Hid ((ls.take k).length = k) := by show _ = _; rw [List.length_take]; omega
      have hbX : (nX : Int) ≤ 1048576 := by omega
      have HCL : Hid (w.cell? ⟨b, off + k, none⟩ = some (.slice X.o nX X.c)) := hcell
      have d0 := HI.out.kp.cellN hcell
      clear hX hnX hsl hbody hnext hle htk hcell hkl
      go_wp2_with fail
      refine (own_any wr X.o nX X.c X.xs HX.out (HSX.out.keepsN HI.out.kp) (by have := HX.out; omega)).mono ?_
      rintro e w2 ⟨v, rfl, o2, m2, c2, rfl, hm2, ho2, _, hk2⟩
      obtain rfl : m2 = nX := hm2.out.trans HX.out.symm
      have HO2 : Hid (Own BE w2 o2 c2 X.xs) := ho2
      have HI2 : Hid (BkI w w2 oA mA cA oW cW ls k) := HI.out.keepsN hk2
      clear hm2 ho2 hk2 HI d0
      go_wp2_with fail
      refine (build_any w2 o2 m2 c2 X.xs HX.out HO2.out.sl hbX).mono ?_
      rintro e w3 ⟨o3, m3, c3, rfl, hm3, ho3, _, hk3⟩
      have hm3' : m3 = m2 + 4 := by rw [hm3.out, Nat.add_comm]
      have HO3 : Hid (Own BE w3 o3 c3 (fr X.xs)) := ho3
      have HI3 : Hid (BkI w w3 oA mA cA oW cW ls k) := HI2.out.keepsN hk3
      have HM3 : Hid (m3 = (fr X.xs).length) := by show _ = _; rw [fr_len, hm3.out, HX.out]
      have d0 := HI3.out.kp.cellN HCL.out
      subst m3
      clear ho3 hk3 HI2 HO2
      have HBB : Hid ((ff ((bods ls).take k)).length + (fr X.xs).length ≤ 5242880) := by
        show _ ≤ _
        have := HNX.out.2
        rw [HNX.out.1, List.length_append] at this
        exact this
      go_wp2_with (at_builtin; first | (refine wpList_app okB rfl _ _ rfl oA _ cA (ff ((bods ls).take k)) rfl HI3.out.m HI3.out.a o3 _ c3 (fr X.xs) rfl (by have := HM3.out; omega) HO3.out.sl.nil HO3.out.row (by have := HBB.out; simp [BE]; omega) (by have := HBB.out; omega) ?_; intro o4 c4 w4 ho4 hap4; have HN4 : Hid (New w o4 ∧ Keeps no w w4) := hap4.new (w0 := w) HI3.out.nA HI3.out.kp; have HO4 : Hid (Own BE w4 o4 c4 (ff ((bods ls).take k) ++ fr X.xs)) := ho4; have HW4 : Hid (Own XE w4 oW cW (ls.take k)) := HI3.out.b.keeps hap4.keeps (fun x h1 h2 => ne_own HI3.out.b HI3.out.a (by decide) x h1 h2); have d4 := HN4.out.2.cellN HCL.out; clear ho4 hap4 d0) | (go_must (refine wpList_app okX rfl _ _ rfl oW _ cW (ls.take k) rfl HTL.out.symm (HW4.out.keepsN ((Keeps.refl _ _).alloc _)) _ _ _ [X] rfl rfl (fun e => by cases e) (lit_row okX w4 [X] _ _ (litX HX.out)) (by have := HTL.out; simp [XE]; omega) (by have := HTL.out; simp; omega) ?_); intro o5 c5 w5 ho5 hap5))
      have HN5 : Hid (New w o5 ∧ Keeps no w w5) := hap5.new (w0 := w) HI3.out.nW (HN4.out.2.alloc _)
      have HO5 : Hid (Own XE w5 o5 c5 (ls.take k ++ [X])) := ho5
      have HA5 : Hid (Own BE w5 o4 c4 (ff ((bods ls).take k) ++ fr X.xs)) := (HO4.out.keepsN ((Keeps.refl _ _).alloc _)).keeps hap5.keeps (fun x h1 h2 => ne_own HO4.out HW4.out (by decide) x h1 h2)
      clear ho5 hap5
      go_roundw
      case rel =>
        refine ⟨k + 1, mA + (m2 + 4), o4, c4, o5, c5, by omega, by go_num, rfl, rfl, ⟨?_, ?_, ?_, HN4.out.1, HN5.out.1, HN5.out.2⟩⟩
        · rw [HNX.out.1, List.length_append, ← HI3.out.m]; have := HM3.out; omega
        · rw [HNX.out.1]; exact HA5.out
        · rw [HTK.out]; exact HO5.out
      case measure => simp [intOf]; omega
    · have hkn : k = n0 := by omega
      subst k
      have HA : Hid (Own BE wr oA cA (ff (bods ls)) ∧ mA = (ff (bods ls)).length ∧ Own XE wr oW cW ls) := by
        have h1 := HI.out.a
        have h2 := HI.out.m
        have h3 := HI.out.b
        rw [List.take_of_length_le (by rw [bods_len, ← HN0.out]; exact Nat.le_refl _)] at h1 h2
        rw [List.take_of_length_le (by rw [← HN0.out]; exact Nat.le_refl _)] at h3
        exact ⟨h1, h2, h3⟩
      have HK : Hid (Keeps no w wr) := HI.out.kp
      have hmA : (mA : Int) ≤ 5242880 := by have := HA.out.2.1; have := HFF.out; omega
      have HSP : Hid (split (ff (bods ls)) = some (bods ls, [])) := split_all _ (fun x hx => by
        obtain ⟨j, hj, rfl⟩ := List.getElem_of_mem hx
        have := body_le (bods ls) j hj
        simp [List.getD_eq_getElem?_getD, hj] at this
        have := HZ.out
        simp at this
        omega)
      clear HI hlt hk
      go_wp2_with fail
      refine (own_any wr oA mA cA (ff (bods ls)) HA.out.2.1 HA.out.1.sl (by have := HFF.out; omega)).mono ?_
      rintro e w2 ⟨v, rfl, o2, m2, c2, rfl, hm2, ho2, _, hk2⟩
      obtain rfl : m2 = mA := hm2.out.trans HA.out.2.1.symm
      have HO2 : Hid (Own BE w2 o2 c2 (ff (bods ls))) := ho2
      have HK2 : Hid (Keeps no wr w2) := hk2
      clear hm2 ho2 hk2
      go_wp2_with fail
      refine (split_known w2 o2 m2 c2 (ff (bods ls)) HA.out.2.1 HO2.out.sl (by omega) _ _ HSP.out n0 0 (by rw [bods_len]; exact HN0.out) rfl).mono ?_
      rintro e w3 ⟨oL, cL, ms, oR, cR, rfl, hms, hS⟩
      have HK3 : Hid (Keeps no wr w3) := HK2.out.trans hS.h.kp
      have HS3 : Hid (Lst w3 oL ms ∧ bods ms = bods ls) := ⟨hS.h.lst, hms⟩
      have HL3 : Hid (Lst w3 oW ls) := ⟨(HA.out.2.2.keepsN HK3.out).row, fun j hj => (HS0.out.x j hj).row.keepsN (HK.out.trans HK3.out)⟩
      clear hms hS HK2 HO2
      go_wp2_with fail
      refine (sameLists_yes w3 oL n0 cL oW n0 cW ms ls (by rw [← bods_len, HS3.out.2, bods_len]; exact HN0.out) HN0.out (by omega) HS3.out.1 HL3.out HS3.out.2).mono ?_
      rintro e w4 ⟨rfl, hk4⟩
      have HK4 : Hid (Keeps no w w4) := (HK.out.trans HK3.out).trans hk4
      clear hk4 HS3 HL3 HK3
      go_wp2_with fail
      refine (own_any w4 a1 n1 c1 ss HN1.out (HS1.out.keepsN HK4.out) (by have := HN1.out; omega)).mono ?_
      rintro e w5 ⟨v, rfl, o5, m5, c5, rfl, hm5, ho5, _, hk5⟩
      obtain rfl : m5 = n1 := hm5.out.trans HN1.out.symm
      have HO5 : Hid (Own BE w5 o5 c5 ss) := ho5
      have HK5 : Hid (Keeps no w w5) := HK4.out.trans hk5
      clear hm5 ho5 hk5 HK4
      go_wp2_with fail
      cases hsp : split ss with
      | none =>
        refine (split_refused w5 o5 m5 c5 ss HN1.out HO5.out.sl (by omega) hsp).mono ?_
        rintro e w6 ⟨rfl, hk6⟩
        have HK6 : Hid (Keeps no w w6) := HK5.out.trans hk6
        clear hk6 hsp
        go_wp2_with fail
        go_ret
        exact ⟨rfl, HK6.out⟩
      | some p =>
        obtain ⟨l, r⟩ := p
        have HSS : Hid (split ss = some (l, r)) := hsp
        have hlen := split_len hsp
        have hbk : ff l ++ r = ss ∧ ∀ b ∈ l, b.length ≤ 1048576 := split_back ss l r hsp
        obtain ⟨M, hM⟩ : ∃ M, M = l.length := ⟨_, rfl⟩
        obtain ⟨R, hR⟩ : ∃ R, R = r.length := ⟨_, rfl⟩
        have HM : Hid (M = l.length ∧ R = r.length) := ⟨hM, hR⟩
        have hM5 : (M : Int) ≤ 1048576 := by have := HN1.out; omega
        have HBK : Hid (ff l ++ r = ss ∧ ∀ b ∈ l, b.length ≤ 1048576) := hbk
        have HFL : Hid ((ff l).length + r.length ≤ 1048576) := by show _ ≤ _; rw [← List.length_append, hbk.1]; have := HN1.out; omega
        clear hsp hlen hbk hM hR
        refine (split_known w5 o5 m5 c5 ss HN1.out HO5.out.sl (by omega) l r HSS.out M R HM.out.1 HM.out.2).mono ?_
        rintro e w6 ⟨oL, cL, ms, oR, cR, rfl, hms, hS⟩
        have HK6 : Hid (Keeps no w w6) := HK5.out.trans hS.h.kp
        have HS6 : Hid (Spl w5 w6 oL cL ms oR cR r ∧ bods ms = l) := ⟨hS, hms⟩
        have HJ0 : Hid (BkJ w6 w6 none 0 0 l 0) := ⟨rfl, own_nil _, new_none _, Keeps.refl _ _⟩
        clear hms hS HO5
        go_wp2_with fail
        go_loopw [14, 15] (fun a i wq => ∃ (k mA : Nat) (oA : Option Addr) (cA : Nat), k ≤ M ∧ i = .int .i64 k ∧ a = .slice oA mA cA ∧ Hid (BkJ w6 wq oA mA cA l k)) (fun _ i _ => M - (intOf i).toNat)
        case atStart => exact ⟨0, 0, none, 0, by omega, rfl, rfl, HJ0⟩
        case round =>
          rename World => wq
          clear HJ0
          obtain ⟨k, mG, oG, cG, hk, rfl, rfl, HJ⟩ := hrel
          by_cases hlt : k < M
          · have hkl : k < ms.length := by rw [← bods_len, HS6.out.2, ← HM.out.1]; exact hlt
            have hkl2 : k < l.length := by rw [← HM.out.1]; exact hlt
            have hh := HS6.out.1.h.keepsN HJ.out.kp
            obtain ⟨b, off, rfl, d0⟩ := rowX_at hh.own.row hkl
            have hown := hh.each k hkl
            have hbody : (l.getD k []).length ≤ 1048576 := HBK.out.2 _ (by simp [List.getD_eq_getElem?_getD, hkl2])
            have hxs : (ms.getD k ls0).xs = l.getD k [] := by rw [← bods_at, HS6.out.2]
            have hnext := ff_next l k hkl2
            have hle := ff_le l (k + 1)
            rw [← hxs] at hbody hnext
            obtain ⟨X, hX⟩ : ∃ X, X = ms.getD k ls0 := ⟨_, rfl⟩
            rw [← hX] at d0 hown hbody hnext
            obtain ⟨nX, hnX⟩ : ∃ n, n = X.xs.length := ⟨_, rfl⟩
            rw [← hnX] at d0 hbody
            have HX : Hid (nX = X.xs.length) := hnX
            have HSX : Hid (Own BE wq X.o X.c X.xs) := hown
            have HNX : Hid (ff (l.take (k + 1)) = ff (l.take k) ++ fr X.xs ∧ (ff (l.take (k + 1))).length ≤ 5242880) := ⟨hnext, by have := HFL.out; omega⟩
            have hbX : (nX : Int) ≤ 1048576 := by omega
            clear hX hnX hown hbody hnext hle hxs hkl hkl2 hh
            go_wp2_with fail
            refine (build_any wq X.o nX X.c X.xs HX.out HSX.out.sl hbX).mono ?_
            rintro e w7 ⟨o7, m7, c7, rfl, hm7, ho7, _, hk7⟩
            have HO7 : Hid (Own BE w7 o7 c7 (fr X.xs)) := ho7
            have HM7 : Hid (m7 = (fr X.xs).length) := by show _ = _; rw [fr_len, hm7.out, HX.out]
            have HJ7 : Hid (Own BE w7 oG cG (ff (l.take k)) ∧ Keeps no w6 w7) := ⟨HJ.out.a.keepsN hk7, HJ.out.kp.trans hk7⟩
            have HBB : Hid ((ff (l.take k)).length + (fr X.xs).length ≤ 5242880) := by
              show _ ≤ _
              have := HNX.out.2
              rw [HNX.out.1, List.length_append] at this
              exact this
            clear hm7 ho7 hk7
            go_wp2_with (at_builtin; go_must (refine wpList_app okB rfl _ _ rfl oG _ cG (ff (l.take k)) rfl HJ.out.m HJ7.out.1 o7 _ c7 (fr X.xs) rfl HM7.out HO7.out.sl.nil HO7.out.row (by have := HBB.out; simp [BE]; omega) (by have := HBB.out; omega) ?_); intro o8 c8 w8 ho8 hap8)
            have HN8 : Hid (New w6 o8 ∧ Keeps no w6 w8) := hap8.new (w0 := w6) HJ.out.nA HJ7.out.2
            have HO8 : Hid (Own BE w8 o8 c8 (ff (l.take k) ++ fr X.xs)) := ho8
            clear ho8 hap8
            go_roundw
            case rel =>
              refine ⟨k + 1, mG + m7, o8, c8, by omega, by go_num, rfl, ⟨?_, ?_, HN8.out.1, HN8.out.2⟩⟩
              · rw [HNX.out.1, List.length_append, ← HJ.out.m, ← HM7.out]
              · rw [HNX.out.1]; exact HO8.out
            case measure => simp [intOf]; omega
          · have hkn : k = M := by omega
            subst k
            have HA2 : Hid (Own BE wq oG cG (ff l) ∧ mG = (ff l).length) := by
              have h1 := HJ.out.a
              have h2 := HJ.out.m
              rw [List.take_of_length_le (by rw [← HM.out.1]; exact Nat.le_refl _)] at h1 h2
              exact ⟨h1, h2⟩
            have HR2 : Hid (Own BE wq oR cR r ∧ Keeps no w wq) := ⟨HS6.out.1.rest.keepsN HJ.out.kp, HK6.out.trans HJ.out.kp⟩
            go_wp2_with (at_builtin; go_must (refine wpList_app okB rfl _ _ rfl oG _ cG (ff l) rfl HA2.out.2 HA2.out.1 oR _ cR r rfl HM.out.2 HR2.out.1.sl.nil HR2.out.1.row (by have := HFL.out; simp [BE]; omega) (by have := HFL.out; omega) ?_); intro o8 c8 w8 ho8 hap8)
            have HN8 : Hid (New w6 o8 ∧ Keeps no w6 w8) := hap8.new (w0 := w6) HJ.out.nA HJ.out.kp
            have HO8 : Hid (Own BE w8 o8 c8 ss) := by show Own BE w8 o8 c8 ss; rw [← HBK.out.1]; exact ho8
            clear ho8 hap8
            refine (same_yes w8 o8 _ c8 a1 m5 c1 ss (by rw [← HBK.out.1, List.length_append, ← HA2.out.2, ← HM.out.2]) HN1.out HO8.out.row (HS1.out.row.keepsN (HK6.out.trans HN8.out.2))).mono ?_
            rintro e w9 ⟨rfl, e9⟩
            subst w9
            go_wp2_with fail
            go_ret
            exact ⟨rfl, HK6.out.trans HN8.out.2⟩
end Go.Proofs.Ytaeajgjehfjkbaa
