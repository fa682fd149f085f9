/- known. -/
import Derived.Test.YtodblodbeobgeaaC9
namespace Go.Proofs.Ytodblodbeobgeaa
open Go.RowKit Go.Sort Orl
set_option linter.unusedVariables false
set_option linter.unusedSimpArgs false

theorem own_two (w : World) (x y : Tx) : Sl TE (w.alloc (.cells #[.string x, .string y] 9)) (some ⟨w.heap.size, 0, none⟩) 2 [x, y] := by
  refine ⟨.inr ⟨_, 0, rfl, fun j u hj => ?_⟩, by simp, fun e => by cases e⟩
  rw [Nat.zero_add, cell_of_blk (blk_new w _)]
  simpa [El.cells, TE] using hj
theorem own_threeV (w : World) (a b c : RV) : Sl VE (w.alloc (.cells #[.string a.key, .int .u64 (a.id : Nat), .string a.val, .slice a.o a.n a.c, .string b.key, .int .u64 (b.id : Nat), .string b.val, .slice b.o b.n b.c, .string c.key, .int .u64 (c.id : Nat), .string c.val, .slice c.o c.n c.c] 32)) (some ⟨w.heap.size, 0, none⟩) 3 [a, b, c] := by
  refine ⟨.inr ⟨_, 0, rfl, fun j u hj => ?_⟩, by simp, fun e => by cases e⟩
  rw [Nat.zero_add, cell_of_blk (blk_new w _)]
  simpa [El.cells, VE] using hj
theorem vers_one {w : World} {o : Option Addr} {c : Nat} {r : RV} {v : Ver} (h : Sl VE w o c [r]) (h1 : VerOf w r v) : Vers w o c [r] [v] := ⟨h, rfl, fun j hj => by
  have : j = 0 := by simp at hj; omega
  subst this; exact h1⟩
theorem vers_three {w : World} {o : Option Addr} {c : Nat} {a b d : RV} {x y z : Ver} (h : Sl VE w o c [a, b, d]) (h1 : VerOf w a x) (h2 : VerOf w b y) (h3 : VerOf w d z) : Vers w o c [a, b, d] [x, y, z] := ⟨h, rfl, fun j hj => by
  have : j = 0 ∨ j = 1 ∨ j = 2 := by simp at hj; omega
  rcases this with rfl | rfl | rfl
  · exact h1
  · exact h2
  · exact h3⟩
theorem vers_nil (w : World) : Vers w none 0 [] [] := ⟨(own_nil w).sl, rfl, fun j hj => by simp at hj⟩
theorem fit_x {k v : Tx} {i : Nat} {ks : List Tx} (hi : i < 18446744073709551616) (hk : k.size ≤ 1000) (hv : v.size ≤ 1000) (hl : ks.length ≤ 1000) (hs : ∀ s ∈ ks, s.size ≤ 1000) : FitV ⟨k, i, v, ks⟩ := ⟨hi, Nat.le_trans hk (by decide), Nat.le_trans hv (by decide), Nat.le_trans hl (by decide), fun s h => Nat.le_trans (hs s h) (by decide)⟩
theorem fitL_x : FitL xL ∧ FitL xG ∧ FitL xM ∧ FitL ([] : List Ver) := by
  have ka : tA.size ≤ 1000 ∧ tB.size ≤ 1000 ∧ tC.size ≤ 1000 ∧ tV.size ≤ 1000 ∧ e0.size ≤ 1000 := ⟨by decide, by decide, by decide, by decide, by decide⟩
  have ab : ∀ s ∈ [tA, tB], s.size ≤ 1000 := by simp [ka]
  have bc : ∀ s ∈ [tB, tC], s.size ≤ 1000 := by simp [ka]
  have f1 : FitV ⟨tA, 65536, tV, [tA, tB]⟩ := fit_x (by decide) ka.1 ka.2.2.2.1 (by simp) ab
  have f2 : FitV ⟨tB, 131072, tV, [tB, tC]⟩ := fit_x (by decide) ka.2.1 ka.2.2.2.1 (by simp) bc
  have f3 : FitV ⟨tC, 0, e0, []⟩ := fit_x (by decide) ka.2.2.1 ka.2.2.2.2 (by simp) (by simp)
  have f4 : FitV ⟨tC, 131072, tV, [tB, tC]⟩ := fit_x (by decide) ka.2.2.1 ka.2.2.2.1 (by simp) bc
  refine ⟨⟨by simp [xL], ?_⟩, ⟨by simp [xG], ?_⟩, ⟨by simp [xM], ?_⟩, ⟨by simp, by simp⟩⟩
  · intro v hv; simp [xL] at hv; rcases hv with rfl | rfl | rfl <;> assumption
  · intro v hv; simp [xG] at hv; subst hv; assumption
  · intro v hv; simp [xM] at hv; rcases hv with rfl | rfl | rfl <;> assumption

def NeedX (W : World) (u : Value) (w' : World) : Prop := ∃ o c, u = .tuple #[.slice o 1 c, .int .i64 0] ∧ Own WE w' o c [(tC, 131072)] ∧ Keeps no W w'
theorem needs_x (W : World) (o : Option Addr) (c : Nat) (rs : List RV) (hv : Vers W o c rs xL) : Calls Try.prog 13 #[.slice o 3 c] W fun e w' => ∃ u, e = .returned u ∧ NeedX W u w' :=
  (pNeeds_any W o 3 c rs xL rfl fitL_x.1 hv).mono fun e w' ⟨u, he, h⟩ => ⟨u, he, by
    rcases h with ⟨hb, _⟩ | ⟨_, o, n, c, hu, hn, ho, _, hk⟩
    · rw [(formedB_iff xL).2 x_formed] at hb; cases hb
    · rw [x_needs] at hn ho
      exact ⟨o, c, by rw [hu, hn]; rfl, ho, hk⟩⟩
def MendX (W : World) (u : Value) (w' : World) : Prop := ∃ o c rs, u = .tuple #[.slice o 3 c, .int .i64 0] ∧ NewVz W o c rs xM w'
theorem mend_x (W : World) (o : Option Addr) (c : Nat) (rs : List RV) (og : Option Addr) (cg : Nat) (rg : List RV) (hv : Vers W o c rs xL) (hg : Vers W og cg rg xG) : Calls Try.prog 14 #[.slice o 3 c, .slice og 1 cg] W fun e w' => ∃ u, e = .returned u ∧ MendX W u w' :=
  (pMend_any W o 3 c rs xL og 1 cg rg xG rfl rfl fitL_x.1 fitL_x.2.1 hv hg).mono fun e w' ⟨u, he, h⟩ => ⟨u, he, by
    rcases h with ⟨hb, _⟩ | ⟨_, hm, _⟩ | ⟨_, m, o, n, c, rs, hm, hu, hn, hv⟩
    · rw [(formedB_iff xL).2 x_formed] at hb; cases hb
    · rw [x_mend] at hm; cases hm
    · rw [x_mend] at hm; cases hm
      exact ⟨o, c, rs, by rw [hu, hn]; rfl, hv⟩⟩
theorem mend_xn (W : World) (o : Option Addr) (c : Nat) (rs : List RV) (hv : Vers W o c rs xL) : Calls Try.prog 14 #[.slice o 3 c, .slice none 0 0] W fun e w' => e = .returned (.tuple #[.slice none 0 0, .int .i64 110]) ∧ Keeps no W w' :=
  (pMend_any W o 3 c rs xL none 0 0 [] [] rfl rfl fitL_x.1 fitL_x.2.2.2 hv (vers_nil W)).mono fun e w' ⟨u, he, h⟩ => by
    rcases h with ⟨hb, _⟩ | ⟨_, hm, hu, hk⟩ | ⟨_, m, o, n, c, rs, hm, hu, hn, hv⟩
    · rw [(formedB_iff xL).2 x_formed] at hb; cases hb
    · exact ⟨by rw [he, hu], hk⟩
    · rw [x_none] at hm; cases hm
theorem cut_x (W : World) (o : Option Addr) (c : Nat) (rs : List RV) (hv : Vers W o c rs xL) : Calls Try.prog 15 #[.slice o 3 c] W fun e w' => e = .returned (.bool false) ∧ Keeps no W w' :=
  (pCut_any W o 3 c rs xL rfl fitL_x.1 hv).mono fun e w' ⟨he, hk⟩ => ⟨by rw [he, x_whole]; rfl, hk⟩
theorem cut_xm (W : World) (o : Option Addr) (c : Nat) (rs : List RV) (hv : Vers W o c rs xM) : Calls Try.prog 15 #[.slice o 3 c] W fun e w' => e = .returned (.bool true) ∧ Keeps no W w' :=
  (pCut_any W o 3 c rs xM rfl fitL_x.2.2.1 hv).mono fun e w' ⟨he, hk⟩ => ⟨by rw [he, x_wholeM, (formedB_iff xM).2 x_formedM]; rfl, hk⟩
theorem formed_x (W : World) (o : Option Addr) (c : Nat) (rs : List RV) (hv : Vers W o c rs xL) : Calls Try.prog 11 #[.slice o 3 c] W fun e w' => e = .returned (.bool true) ∧ Keeps no W w' :=
  (pFormed_any W o 3 c rs xL rfl fitL_x.1 hv).mono fun e w' ⟨he, hk⟩ => ⟨by rw [he, (formedB_iff xL).2 x_formed], hk⟩
theorem formed_xn (W : World) : Calls Try.prog 11 #[.slice none 0 0] W fun e w' => e = .returned (.bool false) ∧ Keeps no W w' :=
  (pFormed_any W none 0 0 [] [] rfl fitL_x.2.2.2 (vers_nil W)).mono fun e w' ⟨he, hk⟩ => ⟨by rw [he, x_nil], hk⟩
theorem neqW (x1 y1 : Tx) (x2 y2 : Nat) (w : World) : (binOp .neq 41 (.agg #[.string x1, .int .u64 (x2 : Nat)]) (.agg #[.string y1, .int .u64 (y2 : Nat)])).run Try.prog w = .ok (.bool (!(decide (x1 = y1) && decide (x2 = y2)))) w := by
  have u9 := Try.underlying9
  have a9 := Try.isAgg9
  have z9 := Try.sizeOf9
  have u23 := Try.underlying29
  have a23 := Try.isAgg29
  have z23 := Try.sizeOf29
  have hS : Try.prog.underlying 41 = some (.struct (Try.prog.fieldsOf 41)) := by kernel_rfl
  have hp : Try.prog.stoodInHeld 41 = false := by kernel_rfl
  rw [run_neq_struct, show (10000 : Nat) = 9999 + 1 from rfl, run_equalIn_agg w 9999 41 _ _ hS hp]
  simp only [Program.fieldsOf, Try.underlying41]
  go_simp
  by_cases h1 : x1 = y1 <;> by_cases h2 : x2 = y2 <;> simp [h1, h2, toList_inj] <;> omega
set_option maxRecDepth 10000 in
set_option maxHeartbeats 1000000 in
theorem known_any (w : World) : Calls Try.prog 10 #[] w fun e w' => e = .returned (.bool true) ∧ Keeps no w w' := by
  go_enter Try.func10, Try.ntmps10
  go_wp2_with fail
  refine (version_any _ tA 65536 _ _ _ (by decide)).mono ?_
  rintro e w1 ⟨rfl, hk1⟩
  have S1 : Hid (Sl TE w1 (some ⟨w.heap.size, 0, none⟩) 2 [tA, tB]) := (own_two w tA tB).keepsN hk1
  have K1 : Hid (Keeps no w w1) := ((Keeps.refl no w).alloc _).trans hk1
  clear hk1
  generalize w.heap.size = BA at S1 ⊢
  go_wp2_with fail
  refine (version_any _ tB 131072 _ _ _ (by decide)).mono ?_
  rintro e w2 ⟨rfl, hk2⟩
  have S2 : Hid (Sl TE w2 (some ⟨w1.heap.size, 0, none⟩) 2 [tB, tC] ∧ Sl TE w2 (some ⟨BA, 0, none⟩) 2 [tA, tB]) := ⟨(own_two w1 tB tC).keepsN hk2, S1.out.keepsN (((Keeps.refl no w1).alloc _).trans hk2)⟩
  have K2 : Hid (Keeps no w w2) := K1.out.trans (((Keeps.refl no w1).alloc _).trans hk2)
  clear hk2 S1 K1
  generalize w1.heap.size = BB at S2 ⊢
  go_wp2_with fail
  refine (version_any _ tC 0 _ _ _ (by decide)).mono ?_
  rintro e w3 ⟨rfl, hk3⟩
  have S3 : Hid (Sl TE w3 (some ⟨BB, 0, none⟩) 2 [tB, tC] ∧ Sl TE w3 (some ⟨BA, 0, none⟩) 2 [tA, tB]) := ⟨S2.out.1.keepsN hk3, S2.out.2.keepsN hk3⟩
  have K3 : Hid (Keeps no w w3) := K2.out.trans hk3
  clear hk3 S2 K2
  obtain ⟨O4, hO4⟩ : ∃ O : Obj, O = .cells #[.string tA, .int .u64 ((65536 : Nat) : Int), .string tV, .slice (some ⟨BA, 0, none⟩) 2 2, .string tB, .int .u64 ((131072 : Nat) : Int), .string tV, .slice (some ⟨BB, 0, none⟩) 2 2, .string tC, .int .u64 ((0 : Nat) : Int), .string e0, .slice none 0 0] 32 := ⟨_, rfl⟩
  have HL : Hid (Vers (w3.alloc O4) (some ⟨w3.heap.size, 0, none⟩) 3 [⟨tA, 65536, tV, some ⟨BA, 0, none⟩, 2, 2⟩, ⟨tB, 131072, tV, some ⟨BB, 0, none⟩, 2, 2⟩, ⟨tC, 0, e0, none, 0, 0⟩] xL ∧ Keeps no w (w3.alloc O4)) := by
    rw [hO4]
    refine ⟨vers_three (own_threeV w3 ⟨tA, 65536, tV, some ⟨BA, 0, none⟩, 2, 2⟩ ⟨tB, 131072, tV, some ⟨BB, 0, none⟩, 2, 2⟩ ⟨tC, 0, e0, none, 0, 0⟩) ⟨rfl, rfl, rfl, rfl, ?_⟩ ⟨rfl, rfl, rfl, rfl, ?_⟩ ⟨rfl, rfl, rfl, rfl, (own_nil _).sl⟩, K3.out.alloc _⟩
    · exact S3.out.2.keepsN ((Keeps.refl _ _).alloc _)
    · exact S3.out.1.keepsN ((Keeps.refl _ _).alloc _)
  have HNX := fun (hl : Vers (w3.alloc O4) (some ⟨w3.heap.size, 0, none⟩) 3 [⟨tA, 65536, tV, some ⟨BA, 0, none⟩, 2, 2⟩, ⟨tB, 131072, tV, some ⟨BB, 0, none⟩, 2, 2⟩, ⟨tC, 0, e0, none, 0, 0⟩] xL) => needs_x _ _ _ _ hl
  have HNX' : Hid (Calls Try.prog 13 #[.slice (some ⟨w3.heap.size, 0, none⟩) 3 3] (w3.alloc O4) fun e w' => ∃ u, e = .returned u ∧ NeedX (w3.alloc O4) u w') := HNX HL.out.1
  clear HNX S3 K3
  rw [hO4] at HL HNX'
  clear hO4 O4
  go_wp2_with fail
  refine Calls.mono HNX'.out ?_
  rintro e w5 ⟨_, rfl, ow, cw, rfl, how, hk5⟩
  clear HNX'
  have HL5 : Hid (Vers w5 (some ⟨w3.heap.size, 0, none⟩) 3 [⟨tA, 65536, tV, some ⟨BA, 0, none⟩, 2, 2⟩, ⟨tB, 131072, tV, some ⟨BB, 0, none⟩, 2, 2⟩, ⟨tC, 0, e0, none, 0, 0⟩] xL ∧ Keeps no w w5 ∧ Own WE w5 ow cw [(tC, 131072)]) := ⟨HL.out.1.keepsN hk5, HL.out.2.trans hk5, how⟩
  clear HL how hk5
  generalize w3.heap.size = BL at HL5 ⊢
  generalize hrs : [(⟨tA, 65536, tV, some ⟨BA, 0, none⟩, 2, 2⟩ : RV), ⟨tB, 131072, tV, some ⟨BB, 0, none⟩, 2, 2⟩, ⟨tC, 0, e0, none, 0, 0⟩] = rsL at HL5
  clear hrs
  go_wp2_with fail
  refine (version_any _ tC 131072 _ _ _ (by decide)).mono ?_
  rintro e w6 ⟨rfl, hk6⟩
  have S6 : Hid (Sl TE w6 (some ⟨w5.heap.size, 0, none⟩) 2 [tB, tC]) := (own_two w5 tB tC).keepsN hk6
  have HL6 : Hid (Vers w6 (some ⟨BL, 0, none⟩) 3 rsL xL ∧ Keeps no w w6 ∧ Own WE w6 ow cw [(tC, 131072)]) := ⟨HL5.out.1.keepsN (((Keeps.refl no w5).alloc _).trans hk6), HL5.out.2.1.trans (((Keeps.refl no w5).alloc _).trans hk6), HL5.out.2.2.keepsN (((Keeps.refl no w5).alloc _).trans hk6)⟩
  clear HL5 hk6
  generalize w5.heap.size = BG at S6 ⊢
  have HG : Hid (Vers (w6.alloc (.cells #[.string tC, .int .u64 ((131072 : Nat) : Int), .string tV, .slice (some ⟨BG, 0, none⟩) 2 2] 32)) (some ⟨w6.heap.size, 0, none⟩) 1 [⟨tC, 131072, tV, some ⟨BG, 0, none⟩, 2, 2⟩] xG ∧ Vers (w6.alloc (.cells #[.string tC, .int .u64 ((131072 : Nat) : Int), .string tV, .slice (some ⟨BG, 0, none⟩) 2 2] 32)) (some ⟨BL, 0, none⟩) 3 rsL xL) :=
    ⟨vers_one (own_oneV w6 ⟨tC, 131072, tV, some ⟨BG, 0, none⟩, 2, 2⟩) ⟨rfl, rfl, rfl, rfl, S6.out.keepsN ((Keeps.refl _ _).alloc _)⟩, HL6.out.1.keepsN ((Keeps.refl _ _).alloc _)⟩
  have HMX : Hid (Calls Try.prog 14 #[.slice (some ⟨BL, 0, none⟩) 3 3, .slice (some ⟨w6.heap.size, 0, none⟩) 1 1] (w6.alloc (.cells #[.string tC, .int .u64 ((131072 : Nat) : Int), .string tV, .slice (some ⟨BG, 0, none⟩) 2 2] 32)) fun e w' => ∃ u, e = .returned u ∧ MendX (w6.alloc (.cells #[.string tC, .int .u64 ((131072 : Nat) : Int), .string tV, .slice (some ⟨BG, 0, none⟩) 2 2] 32)) u w') := mend_x _ _ _ _ _ _ _ HG.out.2 HG.out.1
  clear HG S6
  go_wp2_with fail
  refine Calls.mono HMX.out ?_
  rintro e w7 ⟨_, rfl, om, cm, rm, rfl, hvm⟩
  clear HMX
  have K7 := ((Keeps.refl no w6).alloc (.cells #[.string tC, .int .u64 ((131072 : Nat) : Int), .string tV, .slice (some ⟨BG, 0, none⟩) 2 2] 32)).trans hvm.kp
  have HL7 : Hid (Vers w7 (some ⟨BL, 0, none⟩) 3 rsL xL ∧ Keeps no w w7 ∧ Own WE w7 ow cw [(tC, 131072)] ∧ Vers w7 om cm rm xM) := ⟨HL6.out.1.keepsN K7, HL6.out.2.1.trans K7, HL6.out.2.2.keepsN K7, hvm.vers⟩
  clear HL6 K7 hvm
  have HMN : Hid (Calls Try.prog 14 #[.slice (some ⟨BL, 0, none⟩) 3 3, .slice none 0 0] w7 fun e w' => e = .returned (.tuple #[.slice none 0 0, .int .i64 110]) ∧ Keeps no w7 w') := mend_xn _ _ _ _ HL7.out.1
  go_wp2_with fail
  refine Calls.mono HMN.out ?_
  rintro e w8 ⟨rfl, hk8⟩
  have HL8 : Hid (Vers w8 (some ⟨BL, 0, none⟩) 3 rsL xL ∧ Keeps no w w8 ∧ Own WE w8 ow cw [(tC, 131072)] ∧ Vers w8 om cm rm xM) := ⟨HL7.out.1.keepsN hk8, HL7.out.2.1.trans hk8, HL7.out.2.2.1.keepsN hk8, HL7.out.2.2.2.keepsN hk8⟩
  clear HMN HL7 hk8
  obtain ⟨bw, offw, how, d0, d1⟩ := HL8.out.2.2.1.sl.atW (j := 0) (by decide)
  subst how
  have d0' : w8.cell? ⟨bw, offw, none⟩ = some (.string tC) := d0
  have d1' : w8.cell? ⟨bw, offw + 1, none⟩ = some (.int .u64 ((131072 : Nat) : Int)) := by simpa using d1
  clear d0 d1
  have hne : (binOp .neq 41 (.agg #[.string tC, .int .u64 ((131072 : Nat) : Int)]) (.agg #[.string tC, .int .u64 ((131072 : Nat) : Int)])).run Try.prog w8 = .ok (.bool false) w8 := by rw [neqW]; simp
  have hne' : (binOp .neq 41 (.agg #[.string ⟨#[99]⟩, .int .u64 131072]) (.agg #[.string ⟨#[99]⟩, .int .u64 131072])).run Try.prog w8 = .ok (.bool false) w8 := hne
  have d0'' : w8.cell? ⟨bw, offw, none⟩ = some (.string ⟨#[99]⟩) := d0'
  have d1'' : w8.cell? ⟨bw, offw + 1, none⟩ = some (.int .u64 131072) := d1'
  clear d0' d1' hne
  have HC1 : Hid (Calls Try.prog 15 #[.slice (some ⟨BL, 0, none⟩) 3 3] w8 fun e w' => e = .returned (.bool false) ∧ Keeps no w8 w') := cut_x _ _ _ _ HL8.out.1
  go_wp2_with fail
  refine Calls.mono HC1.out ?_
  rintro e w9 ⟨rfl, hk9⟩
  have HL9 : Hid (Vers w9 (some ⟨BL, 0, none⟩) 3 rsL xL ∧ Keeps no w w9 ∧ Vers w9 om cm rm xM) := ⟨HL8.out.1.keepsN hk9, HL8.out.2.1.trans hk9, HL8.out.2.2.2.keepsN hk9⟩
  clear HC1 HL8 hk9 d0'' d1'' hne'
  have HC2 : Hid (Calls Try.prog 15 #[.slice om 3 cm] w9 fun e w' => e = .returned (.bool true) ∧ Keeps no w9 w') := cut_xm _ _ _ _ HL9.out.2.2
  go_wp2_with fail
  refine Calls.mono HC2.out ?_
  rintro e w10 ⟨rfl, hk10⟩
  have HLa : Hid (Vers w10 (some ⟨BL, 0, none⟩) 3 rsL xL ∧ Keeps no w w10 ∧ Vers w10 om cm rm xM) := ⟨HL9.out.1.keepsN hk10, HL9.out.2.1.trans hk10, HL9.out.2.2.keepsN hk10⟩
  clear HC2 HL9 hk10
  have HC3 : Hid (Calls Try.prog 11 #[.slice (some ⟨BL, 0, none⟩) 3 3] w10 fun e w' => e = .returned (.bool true) ∧ Keeps no w10 w') := formed_x _ _ _ _ HLa.out.1
  go_wp2_with fail
  refine Calls.mono HC3.out ?_
  rintro e w11 ⟨rfl, hk11⟩
  have HLb : Hid (Keeps no w w11 ∧ Vers w11 om cm rm xM) := ⟨HLa.out.2.1.trans hk11, HLa.out.2.2.keepsN hk11⟩
  clear HC3 HLa hk11
  have HC4 : Hid (Calls Try.prog 11 #[.slice none 0 0] w11 fun e w' => e = .returned (.bool false) ∧ Keeps no w11 w') := formed_xn _
  go_wp2_with fail
  refine Calls.mono HC4.out ?_
  rintro e w12 ⟨rfl, hk12⟩
  have HLc : Hid (Keeps no w w12 ∧ Vers w12 om cm rm xM) := ⟨HLb.out.1.trans hk12, HLb.out.2.keepsN hk12⟩
  clear HC4 HLb hk12
  obtain ⟨b0, off0, p0, n0, c0, hom, _, x0, _⟩ := HLc.out.2.at (j := 0) (by decide)
  obtain ⟨b1, off1, p1, n1, c1, hom1, _, x1, _⟩ := HLc.out.2.at (j := 1) (by decide)
  obtain ⟨b2, off2, p2, n2, c2, hom2, _, x2, _⟩ := HLc.out.2.at (j := 2) (by decide)
  have hbo : b1 = b0 ∧ off1 = off0 ∧ b2 = b0 ∧ off2 = off0 := by rw [hom] at hom1 hom2; cases hom1; cases hom2; exact ⟨rfl, rfl, rfl, rfl⟩
  obtain ⟨rfl, rfl, rfl, rfl⟩ := hbo
  subst hom
  clear hom1 hom2
  have y0 : w12.cell? ⟨b2, off2 + 1, none⟩ = some (.int .u64 65536) := by simpa [xM] using x0
  have y1 : w12.cell? ⟨b2, off2 + 4 + 1, none⟩ = some (.int .u64 131072) := by simpa [xM] using x1
  have y2 : w12.cell? ⟨b2, off2 + 8 + 1, none⟩ = some (.int .u64 131072) := by simpa [xM] using x2
  clear x0 x1 x2
  go_wp2_with fail
  go_ret
  exact ⟨rfl, HLc.out.1⟩
end Go.Proofs.Ytodblodbeobgeaa
