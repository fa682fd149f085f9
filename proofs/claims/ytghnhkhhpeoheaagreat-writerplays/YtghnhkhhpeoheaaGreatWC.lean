/- The program's New. -/
import Derived.Test.YtghnhkhhpeoheaaGreatZ9
import Derived.Deep.RegionHeld3
import Derived.Deep.RegionHeldLaw
namespace Go.Proofs.YtghnhkhhpeoheaaGreat
open Go.RowKit Go.Sort Orl
set_option linter.unusedVariables false
set_option linter.unusedSimpArgs false

/-- what New tells, of numbers that may be -/
def NewTo (w : World) (l : List Pr) (id : Nat) (P : Int) (cp : Nat) (e : Ending) (w' : World) : Prop :=
  (¬ (1 ≤ P ∧ P ≤ 64 ∧ 65536 ≤ id) → e = .returned (.tuple #[.pointer none, .int .i64 1]) ∧ Keeps no w w') ∧
  ((1 ≤ P ∧ P ≤ 64 ∧ 65536 ≤ id) → valP l = false → e = .returned (.tuple #[.pointer none, .int .i64 40]) ∧ Keeps no w w') ∧
  ((1 ≤ P ∧ P ≤ 64 ∧ 65536 ≤ id) → valP l = true → ∃ p F, e = .returned (.tuple #[.pointer (some ⟨p, 0, none⟩), .int .i64 0]) ∧ IsWr w' p cp F (startS id l P.toNat) ∧ (∀ i, F i → w.heap.size ≤ i) ∧ Keeps no w w')
theorem newTo_arg {w w' : World} {l : List Pr} {id : Nat} {P : Int} {cp : Nat} (h : ¬ (1 ≤ P ∧ P ≤ 64 ∧ 65536 ≤ id)) (k : Keeps no w w') : NewTo w l id P cp (.returned (.tuple #[.pointer none, .int .i64 1])) w' :=
  ⟨fun _ => ⟨rfl, k⟩, fun h' => absurd h' h, fun h' => absurd h' h⟩
theorem eqlF (cp : Nat) (w : World) : (binOp .eql 29 (.func (.func 5) #[.pointer (some ⟨cp, 0, none⟩)] #[]) .nilFunc).run Tryz.prog w = .ok (.bool false) w := by kernel_rfl
def NewOk (w : World) (l : List Pr) (id P cp : Nat) (e : Ending) (w' : World) : Prop := ∃ p F, e = .returned (.tuple #[.pointer (some ⟨p, 0, none⟩), .int .i64 0]) ∧ IsWr w' p cp F (startS id l P) ∧ (∀ i, F i → w.heap.size ≤ i) ∧ Keeps no w w'
/-- the texts copied, one by one -/
structure Cpy (w wr : World) (o : Option Addr) (c : Nat) (xs : List Pr) : Prop where
  own : Own PE wr o c xs
  new : New w o
  kp : Keeps no w wr
theorem Own.atH {w : World} {a : Option Addr} {c : Nat} {xs : List (GS Pr)} (h : Own HE w a c xs) {j : Nat} (hj : j < xs.length) : ∃ b, a = some ⟨b, 0, none⟩ ∧ w.cell? ⟨b, j * 2, none⟩ = some (.int .i64 ((xs.getD j gs0).n : Nat)) ∧ w.cell? ⟨b, j * 2 + 1, none⟩ = some (.slice (xs.getD j gs0).o (xs.getD j gs0).xs.length (xs.getD j gs0).c) := by
  rcases h.row with e | ⟨b, off, rfl, hc⟩
  · subst e; simp at hj
  · have hoff : off = 0 := by
      rcases h.shape with ⟨e, _⟩ | ⟨g, cur, e, _⟩
      · cases e
      · cases e; rfl
    subst hoff
    have key : ∀ i, i < 2 → ∀ u, (HE.enc (xs.getD j gs0))[i]? = some u → w.cell? ⟨b, j * 2 + i, none⟩ = some u := by
      intro i hi u hu
      have := hc (j * 2 + i) u (by
        have := cells_at okH gs0 xs j i hj hi
        rw [show j * 2 + i = j * HE.k + i from rfl, this]; exact hu)
      rwa [Nat.zero_add] at this
    exact ⟨b, rfl, key 0 (by decide) _ rfl, key 1 (by decide) _ rfl⟩
set_option maxRecDepth 10000 in
set_option maxHeartbeats 2000000 in
theorem wNew_yes (w : World) (o : Option Addr) (n c : Nat) (l : List Pr) (id : Nat) (P : Nat) (cp : Nat) (hn : n = l.length) (hl : l.length ≤ 4398046511000) (hz : ∀ p ∈ l, p.1.size ≤ maxLen ∧ p.2.size ≤ maxLen) (hs : Sl PE w o c l) (hid : id < 18446744073709551616) (hid2 : 65536 ≤ id) (hP1 : 1 ≤ P) (hP2 : P ≤ 64) (hv : valP l = true) :
    Calls Tryz.prog 7 #[.slice o n c, .int .u64 (id : Nat), .int .i64 (P : Nat), fnC cp] w (NewOk w l id P cp) := by
  have HNM : Hid (Calls Tryz.prog 24 #[.slice o n c] w fun e w' => ∃ v, e = .returned (.tuple #[v, .int .i64 0]) ∧ Gives PE w (nrm l) v w') := by
    have := norm_any w o n c l hn hl hz hs
    rw [hv] at this
    exact this
  have hv2 := (valP_iff l).1 hv
  have HV : Hid ((1 ≤ l.length ∧ l.length ≤ 1024) ∧ ∀ p ∈ nrm l, p.1.size ≤ 65535 ∧ p.2.size ≤ 65535) := ⟨hv2.1, fun p hp => hv2.2.1 p ((nrm_perm l).mem_iff.1 hp)⟩
  have HND : Hid ((kys l).Nodup) := hv2.2.2
  have HID : Hid (id < 18446744073709551616 ∧ 65536 ≤ id) := ⟨hid, hid2⟩
  have hP1' : ¬ (P : Int) < 1 := by omega
  have hP2' : ¬ (64 : Int) < P := by omega
  have hi2 : ¬ ((id : Nat) : Int) < 65536 := by omega
  have hi3 : ¬ id < 65536 := by omega
  have HPP : Hid (1 ≤ P ∧ P ≤ 64) := ⟨hP1, hP2⟩
  clear hn hl hz hs hv hv2 hid hid2 hP1 hP2
  have hef := eqlF cp
  unfold fnC
  go_enter Tryz.func7, Tryz.ntmps7
  go_wp2_with fail
  refine HNM.out.mono ?_
  rintro e w1 ⟨v, rfl, o1, n1, c1, rfl, hn1, ho1, hw1, hk1⟩
  have H1 : Hid (Cpy w w1 o1 c1 (nrm l) ∧ n1 = (nrm l).length) := ⟨⟨ho1, hw1, hk1⟩, hn1.out⟩
  have hn1b : (n1 : Int) ≤ 1024 := by have := hn1.out; rw [nrm_length] at this; have := HV.out.1; omega
  clear hn1 ho1 hw1 hk1 HNM
  go_wp2_with fail
  go_loopw [12, 43] (fun _ s43 wr => ∃ k : Nat, k ≤ n1 ∧ s43 = .int .i64 k ∧ Hid (Cpy w wr o1 c1 (nrm l))) (fun _ s43 _ => n1 - (intOf s43).toNat)
  case atStart => exact ⟨0, by omega, rfl, H1.out.1⟩
  case round =>
    obtain ⟨k, hk, rfl, HC⟩ := hrel
    by_cases hlt : k < n1
    · have hlt' : (k : Int) < n1 := by omega
      have hkl : k < (nrm l).length := by have := H1.out.2; omega
      obtain ⟨b, off, hob, d0, d1⟩ := HC.out.own.sl.atP hkl
      have hx := HV.out.2 _ (getD_mem_lt p0 hkl)
      have HST := HC.out.own.storeE okP k hkl ((nrm l).getD k p0)
      have hoff : off = 0 := by obtain ⟨g, e, _⟩ := HST; rw [hob] at e; cases e; rfl
      subst hoff
      simp only [Nat.zero_add] at d0 d1
      have HS2 : Hid (∀ X, Keeps no wr X → (∀ i, X.frozen? ⟨b, i, none⟩ = false) ∧ Cpy w ((X.setCell ⟨b, k * 2, none⟩ (.string ((nrm l).getD k p0).1)).setCell ⟨b, k * 2 + 1, none⟩ (.string ((nrm l).getD k p0).2)) o1 c1 (nrm l)) := by
        intro X hX
        obtain ⟨g, e, hf, h1, h2⟩ := (HC.out.own.keepsN hX).storeE okP k hkl ((nrm l).getD k p0)
        rw [hob] at e; cases e
        have e2 : (nrm l).set k ((nrm l).getD k p0) = nrm l := by
          apply List.ext_getElem?
          intro i
          rw [List.getElem?_set]
          split
          · rename_i e; subst e; simp [hkl]
          · rfl
        rw [e2] at h1
        refine ⟨hf, h1, HC.out.new, (HC.out.kp.trans hX).then h2 (fun i hi => .inr (HC.out.new i hi))⟩
      subst hob
      generalize (nrm l).getD k p0 = x at d0 d1 hx HS2
      obtain ⟨x1, x2⟩ := x
      simp only at d0 d1 hx HS2
      have HX : Hid (x1.size ≤ 281474976710656 ∧ x2.size ≤ 281474976710656) := ⟨by omega, by omega⟩
      clear hx HST hkl
      have hbB : b < wr.heap.size := World.block_lt_of_cell? wr _ d0
      obtain ⟨U, hU⟩ : ∃ U, U = wr.alloc (.cells #[.string x1, .string x2] 61) := ⟨_, rfl⟩
      have hkU : Keeps no wr U := by rw [hU]; exact (Keeps.refl _ _).alloc _
      have hbU : U.heap[wr.heap.size]? = some (.cells #[.string x1, .string x2] 61 (0, 0)) := by rw [hU]; exact blk_new wr _
      have HKU : Hid (Keeps no wr U) := hkU
      have HD : Hid (∀ X, Keeps no U X → X.cell? ⟨b, k * 2, none⟩ = some (.string x1) ∧ X.cell? ⟨b, k * 2 + 1, none⟩ = some (.string x2)) := fun X hX => ⟨hX.cellN (hkU.cellN d0), hX.cellN (hkU.cellN d1)⟩
      have HT : Hid (∀ X, Keeps (fun i => i = b) U X → X.cell? ⟨wr.heap.size, 0, none⟩ = some (.string x1) ∧ X.cell? ⟨wr.heap.size, 1, none⟩ = some (.string x2)) := fun X hX => ⟨hX.cell (by rw [cell_of_blk hbU]; rfl) (by simp only; omega), hX.cell (by rw [cell_of_blk hbU]; rfl) (by simp only; omega)⟩
      clear hkU hbU hbB
      go_upto_region 9 with fail
      rw [← hU]
      clear hU d0 d1
      generalize wr.heap.size = B at HT ⊢
      go_region_held3 (fun X => X.cell? ⟨B, 0, none⟩ = some (.string x1) ∧ X.cell? ⟨B, 1, none⟩ = some (.string x2)) (first | exact HT.out _ ((K2.out.of_no.trans (keeps_one _ b _ _)).trans (keeps_one _ b _ _)) | exact HT.out _ K2.out.of_no | exact HT.out _ K1.out.of_no | exact HT.out _ ((Keeps.refl _ U).drew) | exact HT.out _ (Keeps.refl _ U)) ((first | (go_at_call_of 25 (Value.string x1); refine (sclone_any _ x1 HX.out.1).mono ?_; rintro e u1 ⟨rfl, hk'⟩; have K1 : Hid (Keeps no U u1) := (Keeps.refl no U).drew.trans hk'; clear hk') | (go_at_call_of 25 (Value.string x2); refine (sclone_any _ x2 HX.out.2).mono ?_; rintro e u2 ⟨rfl, hk'⟩; have K2 : Hid (Keeps no U u2) := K1.out.trans hk'; have e0 := (HD.out u2 K2.out).1; have e1 := (HD.out u2 K2.out).2; have g0 := (HS2.out u2 (HKU.out.trans K2.out)).1 (k * 2); have g1 := (HS2.out u2 (HKU.out.trans K2.out)).1 (k * 2 + 1); clear hk')))
      all_goals
        go_wp2_with fail
        go_roundw
        case rel => exact ⟨k + 1, by omega, by go_num, (HS2.out u2 (HKU.out.trans K2.out)).2⟩
        case measure => simp [intOf]; omega
    · have hlt' : ¬ (k : Int) < n1 := by omega
      have HGR : Hid (Calls Tryz.prog 26 #[.slice o1 n1 c1, .int .i64 (P : Int)] wr fun e w' => ∃ o m c gs, e = .returned (.tuple #[.slice o m c, .int .i64 0]) ∧ Hid (m = gs.length ∧ Told PE HE fstP wr P (nrm l) o c gs w')) := groupP_yes wr o1 n1 c1 (nrm l) P H1.out.2 (by rw [nrm_length]; have := HV.out.1; omega) (fun x hx => by have := HV.out.2 x hx; unfold maxLen; omega) HC.out.own.sl (by have := HPP.out; omega) HPP.out.2
      go_wp2_with fail
      refine HGR.out.mono ?_
      rintro e w3 ⟨og, mg, cg, gs, rfl, HG⟩
      have hmg : (mg : Int) ≤ 64 := by have := HG.out.1; have := HG.out.2.len; have := HPP.out; omega
      have HNA : Hid (∀ X, Keeps no wr X → Calls Tryz.prog 27 #[.slice o1 n1 c1] X fun e w' => ∃ v, e = .returned v ∧ Gives TE X (kys (nrm l)) v w') := fun X hX => names_any X o1 n1 c1 (nrm l) H1.out.2 (by unfold Small; rw [nrm_length]; have := HV.out.1; omega) (HC.out.own.sl.keepsN hX)
      have HC3 : Hid (Keeps no w wr) := HC.out.kp
      clear HGR HC hlt'
      go_wp2_with fail
      refine (HNA.out _ (HG.out.2.kp.alloc _)).mono ?_
      rintro e w4 ⟨v, rfl, ko, kn, kc, rfl, hkn, hko, hkw, hkk⟩
      have HN0 : Hid (NewL w w4 w3.heap.size cp id none 0 0 [] ((qsIn (startS id l P)).take 0) wr P (nrm l) og cg gs ko kc (kys (nrm l))) := by
        have k3 : Keeps no w3 w4 := ((Keeps.refl no w3).alloc _).trans hkk
        refine ⟨hkk.at (blk_new w3 _) (fun h => h), HG.out.2.kp.size, rfl, ⟨own_nil _, rfl, fun j hj => by simp at hj, fun j hj => by simp at hj, fun j hj => by simp at hj⟩, ?_, HG.out.2.keepsN k3, HC3.out.size, hko, hkw.of_le (Nat.le_trans HG.out.2.kp.size (by simp)), (HC3.out.trans HG.out.2.kp).trans k3⟩
        rintro i (⟨x, e, _⟩ | ⟨j, hj, _⟩)
        · cases e
        · omega
      have HKN : Hid (kn = (kys (nrm l)).length) := hkn
      have HGL : Hid (mg = gs.length ∧ gs.map (fun g => (g.n, g.xs)) = grpS l P) := ⟨HG.out.1, HG.out.2.val⟩
      clear hkn hko hkw hkk HNA HG
      generalize w3.heap.size = p at HN0 ⊢
      go_wp2_with fail
      go_loopw [76] (fun s76 wl => ∃ k : Nat, k ≤ mg ∧ s76 = .int .i64 k ∧ Hid (∃ ro rc rz, NewL w wl p cp id ro k rc rz ((qsIn (startS id l P)).take k) wr P (nrm l) og cg gs ko kc (kys (nrm l)))) (fun s76 _ => mg - (intOf s76).toNat)
      case atStart => exact ⟨0, by omega, rfl, none, 0, [], HN0.out⟩
      case round =>
        clear HN0
        rename World => wl
        obtain ⟨k, hk, rfl, HT⟩ := hrel
        obtain ⟨ro, rc, rz, hN⟩ := HT.out
        by_cases hlt : k < mg
        · have hlt' : (k : Int) < mg := by omega
          have hkg : k < gs.length := by have := HGL.out.1; omega
          have hrl : rz.length = k := by rw [hN.zs.len, ← hN.kl]
          have HN : Hid (NewL w wl p cp id ro k rc rz ((qsIn (startS id l P)).take k) wr P (nrm l) og cg gs ko kc (kys (nrm l)) ∧ k = rz.length ∧ (rz.length + [(rz0 : RZ)].length) * ZE.nb ≤ 140737488355328 ∧ rz.length + [(rz0 : RZ)].length ≤ 140737488355328) := ⟨hN, hrl.symm, by rw [hrl]; simp [ZE]; omega, by rw [hrl]; simp; omega⟩
          have hpl : p < wl.heap.size := lt_of_block hN.blk
          have hps : (startS id l P).ps.length = gs.length := by show (grpS l P).length = _; rw [← HGL.out.2, List.length_map]
          have hq : (qsIn (startS id l P)).take (k + 1) = (qsIn (startS id l P)).take k ++ [⟨((gs.getD k gs0).n : Nat), 1, ((id % 65536 : Nat) : Int), 0, id, (gs.getD k gs0).xs, kys (nrm l)⟩] := by
            rw [take_succ_getD _ k q0 (by rw [qsIn_len, hps]; exact hkg), qsIn_at _ (by rw [hps]; exact hkg)]
            congr 1
            have hg : (startS id l P).ps.getD k pp0 = ((gs.getD k gs0).n, (gs.getD k gs0).xs) := by
              show (grpS l P).getD k pp0 = _
              rw [← HGL.out.2]
              simp [List.getD_eq_getElem?_getD, hkg]
            unfold qIn
            rw [if_pos (show (startS id l P).round = 0 from rfl), hg]
            rfl
          have HGK : Hid (k < gs.length ∧ (gs.getD k gs0).xs.length = (gs.getD k gs0).xs.length ∧ (qsIn (startS id l P)).take (k + 1) = (qsIn (startS id l P)).take k ++ [⟨((gs.getD k gs0).n : Nat), 1, ((id % 65536 : Nat) : Int), 0, id, (gs.getD k gs0).xs, kys (nrm l)⟩]) := ⟨hkg, rfl, hq⟩
          obtain ⟨gb, hgb, a0, a1⟩ := hN.told.own.atH hkg
          have hcp0 : wl.cell? ⟨p, 0, none⟩ = some (.int .u64 (id : Nat)) := by rw [cell_of_blk hN.blk]; rfl
          have hcp4 : wl.cell? ⟨p, 4, none⟩ = some (.slice ro k rc) := by rw [cell_of_blk hN.blk]; rfl
          have hroB : ∀ i, inO ro i → i < wl.heap.size := fun i hi => hN.zs.own.lt i hi
          obtain ⟨r, hr⟩ : ∃ r : RZ, r = ⟨⟨((gs.getD k gs0).n : Nat), 1, ((id % 65536 : Nat) : Int), 0, id, (gs.getD k gs0).o, (gs.getD k gs0).xs.length, (gs.getD k gs0).c, ko, kn, kc, none, 0, none, 0⟩, false⟩ := ⟨_, rfl⟩
          have HR : Hid (r = ⟨⟨((gs.getD k gs0).n : Nat), 1, ((id % 65536 : Nat) : Int), 0, id, (gs.getD k gs0).o, (gs.getD k gs0).xs.length, (gs.getD k gs0).c, ko, kn, kc, none, 0, none, 0⟩, false⟩) := hr
          have HQ0 : Hid (∀ X, Keeps no wl X → Calls Tryz.prog 28 #[.pointer (some ⟨p, 0, none⟩), .int .i64 ((gs.getD k gs0).n : Nat), .agg #[.int .i64 1, .int .i64 0, .int .u64 0, .int .u64 0, .slice (gs.getD k gs0).o (gs.getD k gs0).xs.length (gs.getD k gs0).c, .slice ko kn kc, .slice none 0 0, .slice none 0 0]] X fun e w' => e = .returned (aggZ r) ∧ Keeps no X w') := fun X hX => by rw [hr]; exact quest_any X p id _ 1 _ _ _ _ _ _ (hX.cellN hcp0) HID.out.1
          generalize hgN : (gs.getD k gs0).n = gN at a0 HQ0
          generalize hgO : (gs.getD k gs0).o = gO at a1 HQ0
          generalize hgn : (gs.getD k gs0).xs.length = gn at a1 HQ0
          generalize hgC : (gs.getD k gs0).c = gC at a1 HQ0
          have hkU : Keeps no wl (wl.alloc (.cells #[.int .i64 (gN : Nat), .slice gO gn gC] 75)) := (Keeps.refl _ _).alloc _
          have hbU := blk_new wl (.cells #[.int .i64 (gN : Nat), .slice gO gn gC] 75)
          clear hgN hgO hgn hgC hr hN HT hrl hq hps hkg
          subst hgb
          go_upto_region 19 with fail
          clear a0 a1
          generalize wl.alloc (.cells #[.int .i64 (gN : Nat), .slice gO gn gC] 75) = U at hkU hbU ⊢
          have HKU : Hid (Keeps no wl U) := hkU
          have HP4 : Hid (∀ X, Keeps no U X → X.cell? ⟨p, 4, none⟩ = some (.slice ro k rc)) := fun X hX => hX.cellN (hkU.cellN hcp4)
          have HQ : Hid (∀ X, Keeps no U X → Calls Tryz.prog 28 #[.pointer (some ⟨p, 0, none⟩), .int .i64 (gN : Nat), .agg #[.int .i64 1, .int .i64 0, .int .u64 0, .int .u64 0, .slice gO gn gC, .slice ko kn kc, .slice none 0 0, .slice none 0 0]] X fun e w' => e = .returned (aggZ r) ∧ Keeps no X w') := fun X hX => HQ0.out X (hkU.trans hX)
          have HroB : Hid (∀ i, inO ro i → ¬ i = wl.heap.size) := fun i hi e => by have := hroB i hi; omega
          have HpB : Hid (∀ i, i = p → ¬ i = wl.heap.size) := fun i e1 e2 => by omega
          have HS : Hid (∀ X, Keeps (fun i => ¬ i = wl.heap.size) U X → X.cell? ⟨wl.heap.size, 0, none⟩ = some (.int .i64 (gN : Nat)) ∧ X.cell? ⟨wl.heap.size, 1, none⟩ = some (.slice gO gn gC)) := fun X hX => ⟨hX.cell (by rw [cell_of_blk hbU]; rfl) (fun h => h rfl), hX.cell (by rw [cell_of_blk hbU]; rfl) (fun h => h rfl)⟩
          clear hkU hbU hcp0 hcp4 hroB hpl HQ0
          generalize wl.heap.size = B at HroB HpB HS ⊢
          refine wp_region_held_drew (S := fun X => X.cell? ⟨B, 0, none⟩ = some (.int .i64 (gN : Nat)) ∧ X.cell? ⟨B, 1, none⟩ = some (.slice gO gn gC)) (by kernel_rfl) ?_ (fun hHeld => ?_)
          · exact HS.out _ ((Keeps.refl _ U).drew)
          refine wpAnyH_take (i := 0) (v := ?_) (by simp only [List.getElem?_toArray, List.getElem?_cons_succ, List.getElem?_cons_zero]; rfl) (by kernel_rfl) (by kernel_rfl) (by kernel_rfl) (by exact fun _ _ _ h => h) (Or.inl ⟨by rfl, ?_⟩) (by assumption) ?_
          rotate_left
          · (intro _ hSw; (try dsimp only at hSw); go_simp; (try with_reducible rfl))
          try simp only [Act.put, List.setIfInBounds_toArray, List.set_cons_zero, List.set_cons_succ]
          refine wpAnyH_take (i := 1) (v := ?_) (by simp only [List.getElem?_toArray, List.getElem?_cons_succ, List.getElem?_cons_zero]; rfl) (by kernel_rfl) (by kernel_rfl) (by kernel_rfl) (by exact fun _ _ _ h => h) (Or.inl ⟨by rfl, ?_⟩) (by assumption) ?_
          rotate_left
          · (intro _ hSw; (try dsimp only at hSw); go_simp; (try with_reducible rfl))
          try simp only [Act.put, List.setIfInBounds_toArray, List.set_cons_zero, List.set_cons_succ]
          refine wpAnyH_take (i := 2) (v := ?_) (by simp only [List.getElem?_toArray, List.getElem?_cons_succ, List.getElem?_cons_zero]; rfl) (by kernel_rfl) (by kernel_rfl) (by kernel_rfl) (by exact fun _ _ _ h => h) (Or.inl ⟨by rfl, ?_⟩) (by assumption) ?_
          rotate_left
          · (intro _ hSw; (try dsimp only at hSw); go_simp; (try with_reducible rfl))
          try simp only [Act.put, List.setIfInBounds_toArray, List.set_cons_zero, List.set_cons_succ]
          refine wpAnyH_take (i := 3) (v := ?_) (by simp only [List.getElem?_toArray, List.getElem?_cons_succ, List.getElem?_cons_zero]; rfl) (by kernel_rfl) (by kernel_rfl) (by kernel_rfl) (by exact fun _ _ _ h => h) (Or.inl ⟨by rfl, ?_⟩) (by assumption) ?_
          rotate_left
          · (intro _ hSw; (try dsimp only at hSw); go_simp; (try with_reducible rfl))
          try simp only [Act.put, List.setIfInBounds_toArray, List.set_cons_zero, List.set_cons_succ]
          refine wpAnyH_take (i := 5) (v := ?_) (by simp only [List.getElem?_toArray, List.getElem?_cons_succ, List.getElem?_cons_zero]; rfl) (by kernel_rfl) (by kernel_rfl) (by kernel_rfl) (by exact fun _ _ _ h => h) (Or.inl ⟨by rfl, ?_⟩) (by assumption) ?_
          rotate_left
          · (intro _ hSw; (try dsimp only at hSw); go_simp; (try with_reducible rfl))
          try simp only [Act.put, List.setIfInBounds_toArray, List.set_cons_zero, List.set_cons_succ]
          refine wpAnyH_take (i := 6) (v := ?_) (by simp only [List.getElem?_toArray, List.getElem?_cons_succ, List.getElem?_cons_zero]; rfl) (by kernel_rfl) (by kernel_rfl) (by kernel_rfl) (by exact fun _ _ _ h => h) (Or.inl ⟨by rfl, ?_⟩) (by assumption) ?_
          rotate_left
          · (intro _ hSw; (try dsimp only at hSw); go_simp; (try with_reducible rfl))
          try simp only [Act.put, List.setIfInBounds_toArray, List.set_cons_zero, List.set_cons_succ]
          refine wpAnyH_take (i := 7) (v := ?_) (by simp only [List.getElem?_toArray, List.getElem?_cons_succ, List.getElem?_cons_zero]; rfl) (by kernel_rfl) (by kernel_rfl) (by kernel_rfl) (by exact fun _ _ _ h => h) (Or.inl ⟨by rfl, ?_⟩) (by assumption) ?_
          rotate_left
          · (intro _ hSw; (try dsimp only at hSw); have hA := hSw.1; have hB := hSw.2; go_simp; (try with_reducible rfl))
          try simp only [Act.put, List.setIfInBounds_toArray, List.set_cons_zero, List.set_cons_succ]
          refine wpAnyH_take (i := 8) (v := ?_) (by simp only [List.getElem?_toArray, List.getElem?_cons_succ, List.getElem?_cons_zero]; rfl) (by kernel_rfl) (by kernel_rfl) (by kernel_rfl) (by exact fun _ _ _ h => h) (Or.inl ⟨by rfl, ?_⟩) (by assumption) ?_
          rotate_left
          · (intro _ hSw; (try dsimp only at hSw); go_simp; (try with_reducible rfl))
          try simp only [Act.put, List.setIfInBounds_toArray, List.set_cons_zero, List.set_cons_succ]
          refine wpAnyH_take (i := 9) (v := ?_) (by simp only [List.getElem?_toArray, List.getElem?_cons_succ, List.getElem?_cons_zero]; rfl) (by kernel_rfl) (by kernel_rfl) (by kernel_rfl) (by exact fun _ _ _ h => h) (Or.inl ⟨by rfl, ?_⟩) (by assumption) ?_
          rotate_left
          · (intro _ hSw; (try dsimp only at hSw); have hA := hSw.1; have hB := hSw.2; go_simp; (try with_reducible rfl))
          try simp only [Act.put, List.setIfInBounds_toArray, List.set_cons_zero, List.set_cons_succ]
          refine wpAnyH_take (i := 10) (v := ?_) (by simp only [List.getElem?_toArray, List.getElem?_cons_succ, List.getElem?_cons_zero]; rfl) (by kernel_rfl) (by kernel_rfl) (by kernel_rfl) (by exact fun _ _ _ h => h) (Or.inl ⟨by rfl, ?_⟩) (by assumption) ?_
          rotate_left
          · (intro _ hSw; (try dsimp only at hSw); go_simp; (try with_reducible rfl))
          try simp only [Act.put, List.setIfInBounds_toArray, List.set_cons_zero, List.set_cons_succ]
          refine wpAnyH_take (i := 11) (v := ?_) (by simp only [List.getElem?_toArray, List.getElem?_cons_succ, List.getElem?_cons_zero]; rfl) (by kernel_rfl) (by kernel_rfl) (by kernel_rfl) (by exact fun _ _ _ h => h) (Or.inl ⟨by rfl, ?_⟩) (by assumption) ?_
          rotate_left
          · (intro _ hSw; (try dsimp only at hSw); go_simp; (try with_reducible rfl))
          try simp only [Act.put, List.setIfInBounds_toArray, List.set_cons_zero, List.set_cons_succ]
          have HC : Hid (Keeps no U U.drew) := (Keeps.refl no _).drew
          generalize U.drew = z0 at HC hHeld ⊢
          refine wpAnyH_ready (rs := [4, 12]) (by kernel_rfl) (by simp) ?_
          refine AllReadyH.cons (by simp only [List.getElem?_toArray, List.getElem?_cons_succ, List.getElem?_cons_zero]; rfl) (fun Kq hKq => ?_) (AllReadyH.cons (by simp only [List.getElem?_toArray, List.getElem?_cons_succ, List.getElem?_cons_zero]; rfl) (fun Kq hKq => ?_) AllReadyH.nil)
          · (have hz := HP4.out _ HC.out; go_simp; clear hz)
            refine hKq.out _ _ ?_ (fun hHeldN => ?_)
            · exact HS.out _ HC.out.of_no
            clear hKq Kq hHeld
            have hHeld := hHeldN
            clear hHeldN
            refine wpAnyH_ready (rs := [12]) (by kernel_rfl) (by simp) ?_
            refine AllReadyH.cons (by simp only [List.getElem?_toArray, List.getElem?_cons_succ, List.getElem?_cons_zero]; rfl) (fun Kq hKq => ?_) AllReadyH.nil
            (go_simp; go_at_call 28; refine (HQ.out _ HC.out).mono ?_; rintro e z1 ⟨rfl, hk1⟩; have HC2 : Hid (Keeps no U z1) := HC.out.trans hk1; clear HC hk1; have HC : Hid (Keeps no U z1) := HC2.out; clear HC2; unfold aggZ; (try go_simp))
            refine hKq.out _ _ ?_ (fun hHeldN => ?_)
            · exact HS.out _ HC.out.of_no
            clear hKq Kq hHeld
            have hHeld := hHeldN
            clear hHeldN
            refine wpAnyH_ready (rs := [13]) (by kernel_rfl) (by simp) ?_
            refine AllReadyH.cons (by simp only [List.getElem?_toArray, List.getElem?_cons_succ, List.getElem?_cons_zero]; rfl) (fun Kq hKq => ?_) AllReadyH.nil
            (go_simp; have HB : Hid (Row ZE (z1.alloc (.cells #[.int .i64 r.q.part, .int .i64 r.q.kind, .int .i64 r.q.client, .int .u64 (r.q.req : Nat), .int .u64 (r.q.id : Nat), .slice r.q.po r.q.pn r.q.pc, .slice r.q.ko r.q.kn r.q.kc, .slice r.q.wo 0 r.q.wc, .slice r.q.vo 0 r.q.vc, .bool r.ans] 77)) (some ⟨z1.heap.size, 0, none⟩) [r]) := (lit_one (E := ZE) z1 r _ rfl).row; have HC2 : Hid (Keeps no U (z1.alloc (.cells #[.int .i64 r.q.part, .int .i64 r.q.kind, .int .i64 r.q.client, .int .u64 (r.q.req : Nat), .int .u64 (r.q.id : Nat), .slice r.q.po r.q.pn r.q.pc, .slice r.q.ko r.q.kn r.q.kc, .slice r.q.wo 0 r.q.wc, .slice r.q.vo 0 r.q.vc, .bool r.ans] 77))) := HC.out.alloc _; clear HC; have HC : Hid (Keeps no U (z1.alloc (.cells #[.int .i64 r.q.part, .int .i64 r.q.kind, .int .i64 r.q.client, .int .u64 (r.q.req : Nat), .int .u64 (r.q.id : Nat), .slice r.q.po r.q.pn r.q.pc, .slice r.q.ko r.q.kn r.q.kc, .slice r.q.wo 0 r.q.wc, .slice r.q.vo 0 r.q.vc, .bool r.ans] 77))) := HC2.out; clear HC2; generalize (z1.alloc (.cells #[.int .i64 r.q.part, .int .i64 r.q.kind, .int .i64 r.q.client, .int .u64 (r.q.req : Nat), .int .u64 (r.q.id : Nat), .slice r.q.po r.q.pn r.q.pc, .slice r.q.ko r.q.kn r.q.kc, .slice r.q.wo 0 r.q.wc, .slice r.q.vo 0 r.q.vc, .bool r.ans] 77)) = z2 at HB HC ⊢)
            refine hKq.out _ _ ?_ (fun hHeldN => ?_)
            · exact HS.out _ HC.out.of_no
            clear hKq Kq hHeld
            have hHeld := hHeldN
            clear hHeldN
            refine wpAnyH_ready (rs := [14]) (by kernel_rfl) (by simp) ?_
            refine AllReadyH.cons (by simp only [List.getElem?_toArray, List.getElem?_cons_succ, List.getElem?_cons_zero]; rfl) (fun Kq hKq => ?_) AllReadyH.nil
            refine step_app okZ rfl (.tmp 84) (.tmp 93) rfl ro k rc rz rfl HN.out.2.1 (HN.out.1.zs.own.keepsN (HKU.out.trans HC.out)) (some ⟨z1.heap.size, 0, none⟩) 1 1 [r] rfl rfl (fun h => by cases h) HB.out HN.out.2.2.1 HN.out.2.2.2 ?_
            intro o5 c5 z3 ho5 ha5
            have hst := HN.out.1.step (HKU.out.trans HC.out) HKN.out HGK.out.1 HGK.out.2.1 HR.out ho5 ha5
            have s4 := hst.1
            have f4 := hst.2.1
            have HN5 : Hid (NewL w (z3.setCell ⟨p, 4, none⟩ (.slice o5 (k + 1) c5)) p cp id o5 (k + 1) c5 (rz ++ [r]) ((qsIn (startS id l P)).take (k + 1)) wr P (nrm l) (some ⟨gb, 0, none⟩) cg gs ko kc (kys (nrm l))) := by rw [HGK.out.2.2]; exact hst.2.2
            have HCB : Hid (Keeps (fun i => ¬ i = B) U z3) := HC.out.of_no.trans (by rcases ha5 with ⟨_, k5⟩ | ⟨_, k5⟩; exact k5.mono HroB.out; exact k5.of_no)
            clear hst ho5 ha5
            refine hKq.out _ _ ?_ (fun hHeldN => ?_)
            · exact HS.out _ HCB.out
            clear hKq Kq hHeld
            have hHeld := hHeldN
            clear hHeldN
            refine wpAnyH_take (i := 15) (v := ?_) (by simp only [List.getElem?_toArray, List.getElem?_cons_succ, List.getElem?_cons_zero]; rfl) (by kernel_rfl) (by kernel_rfl) (by kernel_rfl) (by exact fun _ _ _ h => h) (Or.inl ⟨by rfl, ?_⟩) (by assumption) ?_
            rotate_left
            · (intro _ hSw; (try dsimp only at hSw); go_simp; (try with_reducible rfl))
            try simp only [Act.put, List.setIfInBounds_toArray, List.set_cons_zero, List.set_cons_succ]
            refine wpAnyH_take (i := 16) (v := ?_) (by simp only [List.getElem?_toArray, List.getElem?_cons_succ, List.getElem?_cons_zero]; rfl) (by kernel_rfl) (by kernel_rfl) (by kernel_rfl) (by exact fun _ _ _ h => h) (Or.inl ⟨by rfl, ?_⟩) (by assumption) ?_
            rotate_left
            · (intro _ hSw; (try dsimp only at hSw); go_simp; (try with_reducible rfl))
            try simp only [Act.put, List.setIfInBounds_toArray, List.set_cons_zero, List.set_cons_succ]
            refine wpAnyH_ready (rs := [17]) (by kernel_rfl) (by simp) ?_
            refine AllReadyH.cons (by simp only [List.getElem?_toArray, List.getElem?_cons_succ, List.getElem?_cons_zero]; rfl) (fun Kq hKq => ?_) AllReadyH.nil
            go_simp
            refine hKq.out _ _ ?_ (fun hHeldN => ?_)
            · exact HS.out _ (HCB.out.trans ((keeps_one _ p 4 _).mono HpB.out))
            clear hKq Kq hHeld
            have hHeld := hHeldN
            clear hHeldN
            refine wpAnyH_done (by kernel_rfl) ?_ _
            clear hHeld
            go_wp2_with fail
            go_roundw
            case rel => exact ⟨k + 1, by omega, by go_num, o5, c5, _, HN5.out⟩
            case measure => simp [intOf]; omega
          · (go_simp; go_at_call 28; refine (HQ.out _ HC.out).mono ?_; rintro e z1 ⟨rfl, hk1⟩; have HC2 : Hid (Keeps no U z1) := HC.out.trans hk1; clear HC hk1; have HC : Hid (Keeps no U z1) := HC2.out; clear HC2; unfold aggZ; (try go_simp))
            refine hKq.out _ _ ?_ (fun hHeldN => ?_)
            · exact HS.out _ HC.out.of_no
            clear hKq Kq hHeld
            have hHeld := hHeldN
            clear hHeldN
            refine wpAnyH_ready (rs := [4, 13]) (by kernel_rfl) (by simp) ?_
            refine AllReadyH.cons (by simp only [List.getElem?_toArray, List.getElem?_cons_succ, List.getElem?_cons_zero]; rfl) (fun Kq hKq => ?_) (AllReadyH.cons (by simp only [List.getElem?_toArray, List.getElem?_cons_succ, List.getElem?_cons_zero]; rfl) (fun Kq hKq => ?_) AllReadyH.nil)
            · (have hz := HP4.out _ HC.out; go_simp; clear hz)
              refine hKq.out _ _ ?_ (fun hHeldN => ?_)
              · exact HS.out _ HC.out.of_no
              clear hKq Kq hHeld
              have hHeld := hHeldN
              clear hHeldN
              refine wpAnyH_ready (rs := [13]) (by kernel_rfl) (by simp) ?_
              refine AllReadyH.cons (by simp only [List.getElem?_toArray, List.getElem?_cons_succ, List.getElem?_cons_zero]; rfl) (fun Kq hKq => ?_) AllReadyH.nil
              (go_simp; have HB : Hid (Row ZE (z1.alloc (.cells #[.int .i64 r.q.part, .int .i64 r.q.kind, .int .i64 r.q.client, .int .u64 (r.q.req : Nat), .int .u64 (r.q.id : Nat), .slice r.q.po r.q.pn r.q.pc, .slice r.q.ko r.q.kn r.q.kc, .slice r.q.wo 0 r.q.wc, .slice r.q.vo 0 r.q.vc, .bool r.ans] 77)) (some ⟨z1.heap.size, 0, none⟩) [r]) := (lit_one (E := ZE) z1 r _ rfl).row; have HC2 : Hid (Keeps no U (z1.alloc (.cells #[.int .i64 r.q.part, .int .i64 r.q.kind, .int .i64 r.q.client, .int .u64 (r.q.req : Nat), .int .u64 (r.q.id : Nat), .slice r.q.po r.q.pn r.q.pc, .slice r.q.ko r.q.kn r.q.kc, .slice r.q.wo 0 r.q.wc, .slice r.q.vo 0 r.q.vc, .bool r.ans] 77))) := HC.out.alloc _; clear HC; have HC : Hid (Keeps no U (z1.alloc (.cells #[.int .i64 r.q.part, .int .i64 r.q.kind, .int .i64 r.q.client, .int .u64 (r.q.req : Nat), .int .u64 (r.q.id : Nat), .slice r.q.po r.q.pn r.q.pc, .slice r.q.ko r.q.kn r.q.kc, .slice r.q.wo 0 r.q.wc, .slice r.q.vo 0 r.q.vc, .bool r.ans] 77))) := HC2.out; clear HC2; generalize (z1.alloc (.cells #[.int .i64 r.q.part, .int .i64 r.q.kind, .int .i64 r.q.client, .int .u64 (r.q.req : Nat), .int .u64 (r.q.id : Nat), .slice r.q.po r.q.pn r.q.pc, .slice r.q.ko r.q.kn r.q.kc, .slice r.q.wo 0 r.q.wc, .slice r.q.vo 0 r.q.vc, .bool r.ans] 77)) = z2 at HB HC ⊢)
              refine hKq.out _ _ ?_ (fun hHeldN => ?_)
              · exact HS.out _ HC.out.of_no
              clear hKq Kq hHeld
              have hHeld := hHeldN
              clear hHeldN
              refine wpAnyH_ready (rs := [14]) (by kernel_rfl) (by simp) ?_
              refine AllReadyH.cons (by simp only [List.getElem?_toArray, List.getElem?_cons_succ, List.getElem?_cons_zero]; rfl) (fun Kq hKq => ?_) AllReadyH.nil
              refine step_app okZ rfl (.tmp 84) (.tmp 93) rfl ro k rc rz rfl HN.out.2.1 (HN.out.1.zs.own.keepsN (HKU.out.trans HC.out)) (some ⟨z1.heap.size, 0, none⟩) 1 1 [r] rfl rfl (fun h => by cases h) HB.out HN.out.2.2.1 HN.out.2.2.2 ?_
              intro o5 c5 z3 ho5 ha5
              have hst := HN.out.1.step (HKU.out.trans HC.out) HKN.out HGK.out.1 HGK.out.2.1 HR.out ho5 ha5
              have s4 := hst.1
              have f4 := hst.2.1
              have HN5 : Hid (NewL w (z3.setCell ⟨p, 4, none⟩ (.slice o5 (k + 1) c5)) p cp id o5 (k + 1) c5 (rz ++ [r]) ((qsIn (startS id l P)).take (k + 1)) wr P (nrm l) (some ⟨gb, 0, none⟩) cg gs ko kc (kys (nrm l))) := by rw [HGK.out.2.2]; exact hst.2.2
              have HCB : Hid (Keeps (fun i => ¬ i = B) U z3) := HC.out.of_no.trans (by rcases ha5 with ⟨_, k5⟩ | ⟨_, k5⟩; exact k5.mono HroB.out; exact k5.of_no)
              clear hst ho5 ha5
              refine hKq.out _ _ ?_ (fun hHeldN => ?_)
              · exact HS.out _ HCB.out
              clear hKq Kq hHeld
              have hHeld := hHeldN
              clear hHeldN
              refine wpAnyH_take (i := 15) (v := ?_) (by simp only [List.getElem?_toArray, List.getElem?_cons_succ, List.getElem?_cons_zero]; rfl) (by kernel_rfl) (by kernel_rfl) (by kernel_rfl) (by exact fun _ _ _ h => h) (Or.inl ⟨by rfl, ?_⟩) (by assumption) ?_
              rotate_left
              · (intro _ hSw; (try dsimp only at hSw); go_simp; (try with_reducible rfl))
              try simp only [Act.put, List.setIfInBounds_toArray, List.set_cons_zero, List.set_cons_succ]
              refine wpAnyH_take (i := 16) (v := ?_) (by simp only [List.getElem?_toArray, List.getElem?_cons_succ, List.getElem?_cons_zero]; rfl) (by kernel_rfl) (by kernel_rfl) (by kernel_rfl) (by exact fun _ _ _ h => h) (Or.inl ⟨by rfl, ?_⟩) (by assumption) ?_
              rotate_left
              · (intro _ hSw; (try dsimp only at hSw); go_simp; (try with_reducible rfl))
              try simp only [Act.put, List.setIfInBounds_toArray, List.set_cons_zero, List.set_cons_succ]
              refine wpAnyH_ready (rs := [17]) (by kernel_rfl) (by simp) ?_
              refine AllReadyH.cons (by simp only [List.getElem?_toArray, List.getElem?_cons_succ, List.getElem?_cons_zero]; rfl) (fun Kq hKq => ?_) AllReadyH.nil
              go_simp
              refine hKq.out _ _ ?_ (fun hHeldN => ?_)
              · exact HS.out _ (HCB.out.trans ((keeps_one _ p 4 _).mono HpB.out))
              clear hKq Kq hHeld
              have hHeld := hHeldN
              clear hHeldN
              refine wpAnyH_done (by kernel_rfl) ?_ _
              clear hHeld
              go_wp2_with fail
              go_roundw
              case rel => exact ⟨k + 1, by omega, by go_num, o5, c5, _, HN5.out⟩
              case measure => simp [intOf]; omega
            · (go_simp; have HB : Hid (Row ZE (z1.alloc (.cells #[.int .i64 r.q.part, .int .i64 r.q.kind, .int .i64 r.q.client, .int .u64 (r.q.req : Nat), .int .u64 (r.q.id : Nat), .slice r.q.po r.q.pn r.q.pc, .slice r.q.ko r.q.kn r.q.kc, .slice r.q.wo 0 r.q.wc, .slice r.q.vo 0 r.q.vc, .bool r.ans] 77)) (some ⟨z1.heap.size, 0, none⟩) [r]) := (lit_one (E := ZE) z1 r _ rfl).row; have HC2 : Hid (Keeps no U (z1.alloc (.cells #[.int .i64 r.q.part, .int .i64 r.q.kind, .int .i64 r.q.client, .int .u64 (r.q.req : Nat), .int .u64 (r.q.id : Nat), .slice r.q.po r.q.pn r.q.pc, .slice r.q.ko r.q.kn r.q.kc, .slice r.q.wo 0 r.q.wc, .slice r.q.vo 0 r.q.vc, .bool r.ans] 77))) := HC.out.alloc _; clear HC; have HC : Hid (Keeps no U (z1.alloc (.cells #[.int .i64 r.q.part, .int .i64 r.q.kind, .int .i64 r.q.client, .int .u64 (r.q.req : Nat), .int .u64 (r.q.id : Nat), .slice r.q.po r.q.pn r.q.pc, .slice r.q.ko r.q.kn r.q.kc, .slice r.q.wo 0 r.q.wc, .slice r.q.vo 0 r.q.vc, .bool r.ans] 77))) := HC2.out; clear HC2; generalize (z1.alloc (.cells #[.int .i64 r.q.part, .int .i64 r.q.kind, .int .i64 r.q.client, .int .u64 (r.q.req : Nat), .int .u64 (r.q.id : Nat), .slice r.q.po r.q.pn r.q.pc, .slice r.q.ko r.q.kn r.q.kc, .slice r.q.wo 0 r.q.wc, .slice r.q.vo 0 r.q.vc, .bool r.ans] 77)) = z2 at HB HC ⊢)
              refine hKq.out _ _ ?_ (fun hHeldN => ?_)
              · exact HS.out _ HC.out.of_no
              clear hKq Kq hHeld
              have hHeld := hHeldN
              clear hHeldN
              refine wpAnyH_ready (rs := [4]) (by kernel_rfl) (by simp) ?_
              refine AllReadyH.cons (by simp only [List.getElem?_toArray, List.getElem?_cons_succ, List.getElem?_cons_zero]; rfl) (fun Kq hKq => ?_) AllReadyH.nil
              (have hz := HP4.out _ HC.out; go_simp; clear hz)
              refine hKq.out _ _ ?_ (fun hHeldN => ?_)
              · exact HS.out _ HC.out.of_no
              clear hKq Kq hHeld
              have hHeld := hHeldN
              clear hHeldN
              refine wpAnyH_ready (rs := [14]) (by kernel_rfl) (by simp) ?_
              refine AllReadyH.cons (by simp only [List.getElem?_toArray, List.getElem?_cons_succ, List.getElem?_cons_zero]; rfl) (fun Kq hKq => ?_) AllReadyH.nil
              refine step_app okZ rfl (.tmp 84) (.tmp 93) rfl ro k rc rz rfl HN.out.2.1 (HN.out.1.zs.own.keepsN (HKU.out.trans HC.out)) (some ⟨z1.heap.size, 0, none⟩) 1 1 [r] rfl rfl (fun h => by cases h) HB.out HN.out.2.2.1 HN.out.2.2.2 ?_
              intro o5 c5 z3 ho5 ha5
              have hst := HN.out.1.step (HKU.out.trans HC.out) HKN.out HGK.out.1 HGK.out.2.1 HR.out ho5 ha5
              have s4 := hst.1
              have f4 := hst.2.1
              have HN5 : Hid (NewL w (z3.setCell ⟨p, 4, none⟩ (.slice o5 (k + 1) c5)) p cp id o5 (k + 1) c5 (rz ++ [r]) ((qsIn (startS id l P)).take (k + 1)) wr P (nrm l) (some ⟨gb, 0, none⟩) cg gs ko kc (kys (nrm l))) := by rw [HGK.out.2.2]; exact hst.2.2
              have HCB : Hid (Keeps (fun i => ¬ i = B) U z3) := HC.out.of_no.trans (by rcases ha5 with ⟨_, k5⟩ | ⟨_, k5⟩; exact k5.mono HroB.out; exact k5.of_no)
              clear hst ho5 ha5
              refine hKq.out _ _ ?_ (fun hHeldN => ?_)
              · exact HS.out _ HCB.out
              clear hKq Kq hHeld
              have hHeld := hHeldN
              clear hHeldN
              refine wpAnyH_take (i := 15) (v := ?_) (by simp only [List.getElem?_toArray, List.getElem?_cons_succ, List.getElem?_cons_zero]; rfl) (by kernel_rfl) (by kernel_rfl) (by kernel_rfl) (by exact fun _ _ _ h => h) (Or.inl ⟨by rfl, ?_⟩) (by assumption) ?_
              rotate_left
              · (intro _ hSw; (try dsimp only at hSw); go_simp; (try with_reducible rfl))
              try simp only [Act.put, List.setIfInBounds_toArray, List.set_cons_zero, List.set_cons_succ]
              refine wpAnyH_take (i := 16) (v := ?_) (by simp only [List.getElem?_toArray, List.getElem?_cons_succ, List.getElem?_cons_zero]; rfl) (by kernel_rfl) (by kernel_rfl) (by kernel_rfl) (by exact fun _ _ _ h => h) (Or.inl ⟨by rfl, ?_⟩) (by assumption) ?_
              rotate_left
              · (intro _ hSw; (try dsimp only at hSw); go_simp; (try with_reducible rfl))
              try simp only [Act.put, List.setIfInBounds_toArray, List.set_cons_zero, List.set_cons_succ]
              refine wpAnyH_ready (rs := [17]) (by kernel_rfl) (by simp) ?_
              refine AllReadyH.cons (by simp only [List.getElem?_toArray, List.getElem?_cons_succ, List.getElem?_cons_zero]; rfl) (fun Kq hKq => ?_) AllReadyH.nil
              go_simp
              refine hKq.out _ _ ?_ (fun hHeldN => ?_)
              · exact HS.out _ (HCB.out.trans ((keeps_one _ p 4 _).mono HpB.out))
              clear hKq Kq hHeld
              have hHeld := hHeldN
              clear hHeldN
              refine wpAnyH_done (by kernel_rfl) ?_ _
              clear hHeld
              go_wp2_with fail
              go_roundw
              case rel => exact ⟨k + 1, by omega, by go_num, o5, c5, _, HN5.out⟩
              case measure => simp [intOf]; omega
        · have hlt' : ¬ (k : Int) < mg := by omega
          have HE : Hid (k = (startS id l P).ps.length) := by
            show _ = (grpS l P).length
            rw [← HGL.out.2, List.length_map]; have := HGL.out.1; omega
          have HN : Hid (NewL w wl p cp id ro k rc rz ((qsIn (startS id l P)).take k) wr P (nrm l) og cg gs ko kc (kys (nrm l))) := hN
          clear HT hN
          go_wp2_with fail
          go_ret2
          have hN := HN.out
          have e1 : (qsIn (startS id l P)).take k = qsIn (startS id l P) := List.take_of_length_le (by rw [qsIn_len, ← HE.out]; exact Nat.le_refl _)
          rw [e1] at hN
          have hwl := Nat.le_trans hN.le (Nat.le_refl _)
          refine ⟨p, fun i => i = p ∨ ZB ro rz k i, rfl, ⟨.inl rfl, ?_, .inr ⟨rfl, ro, k, rc, rz, hN.blk, hN.kl, ?_, ?_⟩⟩, ?_, hN.kp⟩
          · rintro i (rfl | hi | ⟨j, hj, hi⟩)
            · exact lt_of_block hN.blk
            · exact hN.zs.own.lt i hi
            · have hd : (List.replicate k false).getD j true = false := by simp [List.getD_eq_getElem?_getD, List.getElem?_replicate, hj]
              have := hN.zs.each j (by rw [← hN.kl]; exact hj) hd
              rcases hi with hi | hi
              · exact this.ps.lt i hi
              · exact this.ks.lt i hi
          · have hds : dsIn (startS id l P) = List.replicate k false := by unfold dsIn; rw [if_pos (show (startS id l P).round = 0 from rfl), ← HE.out]
            rw [hds]; exact hN.zs
          · intro i hi; rw [← hN.kl] at hi; exact .inr hi
          · rintro i (rfl | hi)
            · exact Nat.le_trans hN.le hN.pn
            · exact Nat.le_trans hN.le (hN.new i hi)
set_option maxRecDepth 10000 in
theorem wNew_keys (w : World) (o : Option Addr) (n c : Nat) (l : List Pr) (id : Nat) (P : Nat) (cp : Nat) (hn : n = l.length) (hl : l.length ≤ 4398046511000) (hz : ∀ p ∈ l, p.1.size ≤ maxLen ∧ p.2.size ≤ maxLen) (hs : Sl PE w o c l) (hid2 : 65536 ≤ id) (hP1 : 1 ≤ P) (hP2 : P ≤ 64) (hv : valP l = false) :
    Calls Tryz.prog 7 #[.slice o n c, .int .u64 (id : Nat), .int .i64 (P : Nat), fnC cp] w fun e w' => e = .returned (.tuple #[.pointer none, .int .i64 40]) ∧ Keeps no w w' := by
  have HNM : Hid (Calls Tryz.prog 24 #[.slice o n c] w fun e w' => ∃ v, e = .returned (.tuple #[v, .int .i64 40]) ∧ Gives PE w [] v w') := by
    have := norm_any w o n c l hn hl hz hs
    rw [hv] at this
    exact this
  have hP1' : ¬ (P : Int) < 1 := by omega
  have hP2' : ¬ (64 : Int) < P := by omega
  have hi2 : ¬ ((id : Nat) : Int) < 65536 := by omega
  have hi3 : ¬ id < 65536 := by omega
  clear hn hl hz hs hv hid2 hP1 hP2
  have hef := eqlF cp
  unfold fnC
  go_enter Tryz.func7, Tryz.ntmps7
  go_wp2_with fail
  refine HNM.out.mono ?_
  rintro e w1 ⟨v, rfl, o1, n1, c1, rfl, hn1, ho1, hw1, hk1⟩
  have HK : Hid (Keeps no w w1) := hk1
  clear hn1 ho1 hw1 hk1
  go_wp2_with fail
  go_ret2
  exact ⟨rfl, HK.out⟩
set_option maxRecDepth 10000 in
theorem wNew_arg (w : World) (o : Option Addr) (n c : Nat) (id : Nat) (P : Int) (f : Value) (hP : -9223372036854775808 ≤ P ∧ P ≤ 9223372036854775807) (h : ¬ (1 ≤ P ∧ P ≤ 64 ∧ 65536 ≤ id)) :
    Calls Tryz.prog 7 #[.slice o n c, .int .u64 (id : Nat), .int .i64 P, f] w fun e w' => e = .returned (.tuple #[.pointer none, .int .i64 1]) ∧ Keeps no w w' := by
  by_cases h1 : P < 1
  · clear h
    go_enter Tryz.func7, Tryz.ntmps7
    go_wp2_with fail
    go_ret2
    exact ⟨rfl, Keeps.refl _ _⟩
  by_cases h2 : 64 < P
  · clear h
    go_enter Tryz.func7, Tryz.ntmps7
    go_wp2_with fail
    go_ret2
    exact ⟨rfl, Keeps.refl _ _⟩
  have hi2 : ((id : Nat) : Int) < 65536 := by omega
  have hi3 : id < 65536 := by omega
  clear h hP
  go_enter Tryz.func7, Tryz.ntmps7
  go_wp2_with fail
  go_ret2
  exact ⟨rfl, Keeps.refl _ _⟩
theorem wNew_any (w : World) (o : Option Addr) (n c : Nat) (l : List Pr) (id : Nat) (P : Int) (cp : Nat) (hn : n = l.length) (hl : l.length ≤ 4398046511000) (hz : ∀ p ∈ l, p.1.size ≤ maxLen ∧ p.2.size ≤ maxLen) (hs : Sl PE w o c l) (hid : id < 18446744073709551616) (hP : -9223372036854775808 ≤ P ∧ P ≤ 9223372036854775807) :
    Calls Tryz.prog 7 #[.slice o n c, .int .u64 (id : Nat), .int .i64 P, fnC cp] w (NewTo w l id P cp) := by
  by_cases h : 1 ≤ P ∧ P ≤ 64 ∧ 65536 ≤ id
  · obtain ⟨Q, rfl⟩ : ∃ Q : Nat, P = (Q : Int) := ⟨P.toNat, by omega⟩
    cases hv : valP l with
    | false =>
      refine (wNew_keys w o n c l id Q cp hn hl hz hs h.2.2 (by omega) (by omega) hv).mono ?_
      rintro e w' ⟨rfl, hk⟩
      exact ⟨fun h' => absurd h h', fun _ _ => ⟨rfl, hk⟩, fun _ h' => (by rw [hv] at h'; cases h')⟩
    | true =>
      refine (wNew_yes w o n c l id Q cp hn hl hz hs hid h.2.2 (by omega) (by omega) hv).mono ?_
      intro e w' hh
      exact ⟨fun h' => absurd h h', fun _ h' => (by rw [hv] at h'; cases h'), fun _ _ => (by rw [Int.toNat_natCast]; exact hh)⟩
  · refine (wNew_arg w o n c id P (fnC cp) hP h).mono ?_
    rintro e w' ⟨rfl, hk⟩
    exact newTo_arg h hk
end Go.Proofs.YtghnhkhhpeoheaaGreat
