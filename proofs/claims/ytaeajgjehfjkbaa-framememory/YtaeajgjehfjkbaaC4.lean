/- Split. -/
import Derived.Test.YtaeajgjehfjkbaaC3
namespace Go.Proofs.Ytaeajgjehfjkbaa
open Go.RowKit
set_option linter.unusedVariables false
set_option linter.unusedSimpArgs false

theorem cutLH' (w0 : World) (o : Option Addr) (c : Nat) (bs : List UInt8) (n I J : Nat) (i j : Int) (hi : i = (I : Nat)) (hj : j = (J : Nat)) (hn : n = bs.length) (hI : I ≤ J) (hJ : J ≤ n) (h : Sl BE w0 o c bs) :
    ∃ A d, (∀ w, (Instr.slice 24 (.slice o n c) (some (.int .i64 i)) (some (.int .i64 j)) none).run Try.prog w = .ok (.slice A (J - I) d) w) ∧ Sl BE w0 A d ((bs.drop I).take (J - I)) := by
  subst hi hj
  exact cutLH w0 o c bs n I J hn hI hJ h
theorem cutL' (w0 : World) (o : Option Addr) (c : Nat) (bs : List UInt8) (n I : Nat) (i : Int) (hi : i = (I : Nat)) (hn : n = bs.length) (hI : I ≤ n) (h : Sl BE w0 o c bs) :
    ∃ A d, (∀ w, (Instr.slice 24 (.slice o n c) (some (.int .i64 i)) none none).run Try.prog w = .ok (.slice A (n - I) d) w) ∧ Sl BE w0 A d (bs.drop I) := by
  subst hi
  exact cutL w0 o c bs n I hn hI h
def lenOf : Value → Nat
  | .slice _ n _ => n
  | _ => 0
theorem lenOf_slice (o : Option Addr) (n c : Nat) : lenOf (.slice o n c) = n := rfl
def bods (ls : List (LS UInt8)) : List Bs := ls.map LS.xs
theorem bods_len (ls : List (LS UInt8)) : (bods ls).length = ls.length := by simp [bods]
theorem bods_app (ls : List (LS UInt8)) (x : LS UInt8) : bods (ls ++ [x]) = bods ls ++ [x.xs] := by simp [bods]
theorem bods_at (ls : List (LS UInt8)) (j : Nat) : (bods ls).getD j [] = (ls.getD j ls0).xs := by
  simp only [bods, List.getD_eq_getElem?_getD, List.getElem?_map]
  cases ls[j]? <;> rfl
theorem getD_last (zs : List (LS UInt8)) (z : LS UInt8) (j : Nat) (h : zs.length = j) : (zs ++ [z]).getD j ls0 = z := by
  subst h
  simp [List.getD_eq_getElem?_getD]
theorem getD_front (zs : List (LS UInt8)) (z : LS UInt8) (j : Nat) (h : j < zs.length) : (zs ++ [z]).getD j ls0 = zs.getD j ls0 := by
  rw [List.getD_eq_getElem?_getD, List.getD_eq_getElem?_getD, List.getElem?_append_left h]

theorem litX {o : Option Addr} {n c : Nat} {xs : Bs} (hn : n = xs.length) : #[Value.slice o n c].toList = XE.cells [⟨o, c, xs⟩] := by subst hn; rfl
/-- a list of slices, all of them new, each by itself -/
structure Held (w w' : World) (oL : Option Addr) (cL : Nat) (ls : List (LS UInt8)) : Prop where
  own : Own XE w' oL cL ls
  each : ∀ j, j < ls.length → Own BE w' (ls.getD j ls0).o (ls.getD j ls0).c (ls.getD j ls0).xs
  far : ∀ i j, i < ls.length → j < ls.length → i ≠ j → ∀ k, inO (ls.getD i ls0).o k → ¬ inO (ls.getD j ls0).o k
  nL : New w oL
  nE : ∀ j, j < ls.length → New w (ls.getD j ls0).o
  kp : Keeps no w w'
theorem Held.keepsN {w w' w'' : World} {oL : Option Addr} {cL : Nat} {ls : List (LS UInt8)} (h : Held w w' oL cL ls) (hk : Keeps no w' w'') : Held w w'' oL cL ls :=
  ⟨h.own.keepsN hk, fun j hj => (h.each j hj).keepsN hk, h.far, h.nL, h.nE, h.kp.trans hk⟩
theorem held_nil (w : World) : Held w w none 0 [] := ⟨own_nil _, fun j hj => (by simp at hj), fun i j hi => (by simp at hi), new_none _, fun j hj => (by simp at hj), Keeps.refl _ _⟩
theorem Held.push {w w1 w2 w3 : World} {oL o o' : Option Addr} {cL c c' : Nat} {ls : List (LS UInt8)} {xs : Bs} (h : Held w w1 oL cL ls) (ho : Own BE w2 o c xs) (hn : New w1 o) (hk : Keeps no w1 w2) (O : Obj)
    (ho' : Own XE w3 o' c' (ls ++ [⟨o, c, xs⟩])) (hap : Ap (w2.alloc O) oL o' w3) : Held w w3 o' c' (ls ++ [⟨o, c, xs⟩]) := by
  have h2 := h.keepsN hk
  have hK : Keeps (inO oL) w2 w3 := ((Keeps.refl _ _).alloc O).trans hap.keeps
  have hnew := hap.new (w0 := w) h.nL ((h.kp.trans hk).alloc O)
  refine ⟨ho', ?_, ?_, hnew.1, ?_, hnew.2⟩
  · intro j hj
    rw [List.length_append, List.length_singleton] at hj
    by_cases e : j = ls.length
    · rw [getD_last _ _ _ e.symm]; exact ho.keeps hK (ne_own ho h2.own (by decide))
    · rw [getD_front _ _ _ (by omega)]; exact (h2.each j (by omega)).keeps hK (ne_own (h2.each j (by omega)) h2.own (by decide))
  · intro i j hi hj hij k
    rw [List.length_append, List.length_singleton] at hi hj
    have hsep : ∀ j, j < ls.length → ∀ k, inO o k → ¬ inO (ls.getD j ls0).o k := fun j hj k h1 h3 => by
      have := hn k h1
      have := (h.each j hj).lt k h3
      omega
    by_cases e : i = ls.length
    · rw [getD_last _ _ _ e.symm, getD_front _ _ _ (by omega)]
      exact hsep j (by omega) k
    · rw [getD_front _ _ _ (by omega)]
      by_cases e2 : j = ls.length
      · rw [getD_last _ _ _ e2.symm]
        exact fun h1 h3 => hsep i (by omega) k h3 h1
      · rw [getD_front _ _ _ (by omega)]
        exact h.far i j (by omega) (by omega) hij k
  · intro j hj
    rw [List.length_append, List.length_singleton] at hj
    by_cases e : j = ls.length
    · rw [getD_last _ _ _ e.symm]; exact hn.of_le h.kp.size
    · rw [getD_front _ _ _ (by omega)]; exact h.nE j (by omega)
/-- what Split tells -/
structure Spl (w w' : World) (oL : Option Addr) (cL : Nat) (ls : List (LS UInt8)) (oR : Option Addr) (cR : Nat) (r : Bs) : Prop where
  h : Held w w' oL cL ls
  rest : Own BE w' oR cR r
  nR : New w oR
  farR : ∀ j, j < ls.length → ∀ k, inO oR k → ¬ inO (ls.getD j ls0).o k
theorem Spl.keepsN {w w' w'' : World} {oL oR : Option Addr} {cL cR : Nat} {ls : List (LS UInt8)} {r : Bs} (h : Spl w w' oL cL ls oR cR r) (hk : Keeps no w' w'') : Spl w w'' oL cL ls oR cR r :=
  ⟨h.h.keepsN hk, h.rest.keepsN hk, h.nR, h.farR⟩
theorem Held.spl {w w1 w2 : World} {oL o : Option Addr} {cL c : Nat} {ls : List (LS UInt8)} {r : Bs} (h : Held w w1 oL cL ls) (ho : Own BE w2 o c r) (hn : New w1 o) (hk : Keeps no w1 w2) : Spl w w2 oL cL ls o c r :=
  ⟨h.keepsN hk, ho, hn.of_le h.kp.size, fun j hj k h1 h3 => by
    have := hn k h1
    have := (h.each j hj).lt k h3
    omega⟩

def Told (w : World) (bs : Bs) (e : Ending) (w' : World) : Prop := (split bs = none ∧ e = .returned (.tuple #[.slice none 0 0, .slice none 0 0, .int .i64 3]) ∧ Keeps no w w') ∨
      ∃ oL m cL ls oR k cR r, e = .returned (.tuple #[.slice oL m cL, .slice oR k cR, .int .i64 0]) ∧ split bs = some (bods ls, r) ∧ Hid (m = ls.length) ∧ Hid (k = r.length) ∧ Spl w w' oL cL ls oR cR r
/-- what Split's loop holds -/
structure SLp (w : World) (bs : Bs) (wr : World) (A : Option Addr) (N d : Nat) (cs : Bs) (oL : Option Addr) (M cL : Nat) (ls : List (LS UInt8)) : Prop where
  m : M = ls.length
  n : N = cs.length
  s : Sl BE w A d cs
  h : Held w wr oL cL ls
  e : split bs = (split cs).map (pre (bods ls))
  l : ls.length * 4 + cs.length ≤ bs.length

set_option maxRecDepth 100000 in
theorem split_any (w : World) (a : Option Addr) (n c : Nat) (bs : Bs) (hn : n = bs.length) (hs : Sl BE w a c bs) (hb : (n : Int) ≤ 16777216) :
    Calls Try.prog 11 #[.slice a n c] w fun e w' => Told w bs e w' := by
  have HS0 : Hid (SLp w bs w a n c bs none 0 0 []) := ⟨rfl, hn, hs, held_nil w, by cases split bs <;> rfl, by simp⟩
  have HB : Hid (bs.length ≤ 16777216) := by show bs.length ≤ 16777216; omega
  clear hn hs
  go_enter Try.func11, Try.ntmps11
  go_wp2_with fail
  go_loopw [0, 5] (fun s l wr => ∃ (A : Option Addr) (N d : Nat) (cs : Bs) (oL : Option Addr) (M cL : Nat) (ls : List (LS UInt8)), s = .slice A N d ∧ l = .slice oL M cL ∧ (N : Int) ≤ 16777216 ∧ Hid (SLp w bs wr A N d cs oL M cL ls)) (fun s _ _ => lenOf s)
  case atStart => exact ⟨a, n, c, bs, none, 0, 0, [], rfl, rfl, hb, HS0⟩
  case round =>
    rename World => wr
    clear HS0 hb
    obtain ⟨A, N, d, cs, oL, M, cL, ls, rfl, rfl, hN, HI⟩ := hrel
    have hcop : Hid (∀ w1, Keeps no wr w1 → Calls Try.prog 18 #[.slice A N d] w1 fun e w' => ∃ v, e = .returned v ∧ Gives BE w1 cs v w') := fun w1 hk => copied_any w1 A N d cs HI.out.n (HI.out.s.keepsN (HI.out.h.kp.trans hk)) (by have := HB.out; have := HI.out.l; omega)
    by_cases h4 : (4 : Int) ≤ N
    · go_wp2_with fail
      refine (length_any wr A N d cs HI.out.n (HI.out.s.keepsN HI.out.h.kp).row (by omega)).mono ?_
      rintro e w1 ⟨rfl, hk1⟩
      obtain ⟨z, hz⟩ : ∃ z, z = num cs := ⟨_, rfl⟩
      have hz5 : (z : Int) < 4294967296 := by have := num_lt cs; omega
      rw [← hz]
      have HZ : Hid (z = num cs) := hz
      have HK1 : Hid (Keeps no wr w1) := hk1
      clear hz hk1
      by_cases hlong : 1048576 < (z : Int)
      · go_wp2_with fail
        go_ret3
        refine Or.inl ⟨?_, rfl, HI.out.h.kp.trans HK1.out⟩
        rw [HI.out.e, split_long (by have := HI.out.n; omega) (by have := HZ.out; omega)]
        rfl
      · have hlo : (z : Int) ≤ 1048576 := by omega
        clear hlong hz5
        by_cases hpart : (N : Int) < 4 + z
        · go_wp2_with fail
          refine (hcop.out w1 HK1.out).mono ?_
          rintro e w2 ⟨v, rfl, oR, nR, cR, rfl, hnR, ho2, hn2, hk2⟩
          go_wp2_with fail
          go_ret3
          refine Or.inr ⟨_, _, _, ls, _, _, _, cs, rfl, ?_, HI.out.m, hnR, (HI.out.h.keepsN HK1.out).spl ho2 hn2 hk2⟩
          rw [HI.out.e, split_part (by have := HI.out.n; omega) (by have := HZ.out; omega) (by have := HZ.out; have := HI.out.n; omega)]
          simp [pre]
        · obtain ⟨A1, d1, hcut1, hs1⟩ := cutLH' w A d cs N 4 (4 + z) 4 (4 + (z : Int)) rfl (by omega) HI.out.n (by omega) (by omega) HI.out.s
          obtain ⟨A2, d2, hcut2, hs2⟩ := cutL' w A d cs N (4 + z) (4 + (z : Int)) (by omega) HI.out.n (by omega) HI.out.s
          rw [show 4 + z - 4 = z by omega] at hcut1 hs1
          have HS1 : Hid (Sl BE w A1 d1 ((cs.drop 4).take z)) := hs1
          have HS2 : Hid (Sl BE w A2 d2 (cs.drop (4 + z))) := hs2
          have HL1 : Hid (((cs.drop 4).take z).length = z) := by show _ = _; rw [List.length_take, List.length_drop]; have := HI.out.n; omega
          obtain ⟨N2, hN2⟩ : ∃ N2, N2 = N - (4 + z) := ⟨_, rfl⟩
          rw [← hN2] at hcut2
          have HN2 : Hid (N2 = N - (4 + z)) := hN2
          clear hs1 hs2 hN2
          go_wp2_with fail
          refine (copied_any w1 A1 z d1 _ HL1.out.symm (HS1.out.keepsN (HI.out.h.kp.trans HK1.out)) (by have := HL1.out; omega)).mono ?_
          rintro e w2 ⟨v, rfl, oR, nR, cR, rfl, hnR, ho2, hn2, hk2⟩
          have HO2 : Hid (Own BE w2 oR cR ((cs.drop 4).take z) ∧ New w1 oR ∧ Keeps no w1 w2) := ⟨ho2, hn2, hk2⟩
          have HX : Hid (Own XE w2 oL cL ls) := ((HI.out.h.keepsN HK1.out).keepsN hk2).own
          have HLB : Hid ((ls.length + [(⟨oR, cR, (cs.drop 4).take z⟩ : LS UInt8)].length) * XE.nb ≤ 140737488355328 ∧ ls.length + [(⟨oR, cR, (cs.drop 4).take z⟩ : LS UInt8)].length ≤ 140737488355328) := by
            have := HI.out.l
            have := HB.out
            simp only [List.length_singleton, XE]
            exact ⟨by omega, by omega⟩
          clear ho2 hn2 hk2
          go_wp2_with (at_builtin; go_must (refine wpList_app okX rfl _ _ rfl oL _ cL ls rfl HI.out.m (HX.out.keepsN ((Keeps.refl _ _).alloc _)) _ _ _ [⟨oR, cR, (cs.drop 4).take z⟩] rfl rfl (fun e => by cases e) (lit_row okX w2 [⟨oR, cR, (cs.drop 4).take z⟩] _ _ (litX hnR.out)) HLB.out.1 HLB.out.2 ?_); intro o3 c3 w3 ho3 hap3)
          go_roundw
          case rel =>
            refine ⟨A2, N2, d2, cs.drop (4 + z), o3, M + 1, c3, ls ++ [⟨oR, cR, (cs.drop 4).take z⟩], rfl, rfl, by have := HN2.out; omega, ⟨?_, ?_, HS2.out, ?_, ?_, ?_⟩⟩
            · rw [List.length_append, ← HI.out.m]; rfl
            · rw [List.length_drop, ← HI.out.n]; exact HN2.out
            · exact (HI.out.h.keepsN HK1.out).push HO2.out.1 HO2.out.2.1 HO2.out.2.2 _ ho3 hap3
            · rw [HI.out.e, split_next (by have := HI.out.n; omega) (by have := HZ.out; omega) (by have := HZ.out; have := HI.out.n; omega), ← HZ.out, Option.map_map, bods_app]
              cases split (cs.drop (4 + z)) <;> simp [pre, conz]
            · rw [List.length_append, List.length_drop, List.length_singleton]
              have := HI.out.l
              have := HI.out.n
              omega
          case measure =>
            rw [lenOf_slice, lenOf_slice]
            have := HN2.out
            omega
    · go_wp2_with fail
      refine (hcop.out wr (Keeps.refl _ _)).mono ?_
      rintro e w2 ⟨v, rfl, oR, nR, cR, rfl, hnR, ho2, hn2, hk2⟩
      go_wp2_with fail
      go_ret3
      refine Or.inr ⟨_, _, _, ls, _, _, _, cs, rfl, ?_, HI.out.m, hnR, HI.out.h.spl ho2 hn2 hk2⟩
      rw [HI.out.e, split_short (by have := HI.out.n; omega)]
      simp [pre]
end Go.Proofs.Ytaeajgjehfjkbaa
