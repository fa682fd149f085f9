import Derived.Test.YtdemoghlibnooaaGreatDoorZC
import Derived.Test.YtdemoghlibnooaaGreatDoorGY
import Derived.Test.YtdemoghlibnooaaGreatDoorDB
import Derived.Deep.CutBlock
import Derived.Deep.CutRange
namespace Go.Proofs.YtdemoghlibnooaaGreatDoor
open Go.RowKit Go.Maps Go.Sort Orl Pk
set_option linter.unusedVariables false
set_option linter.unusedSimpArgs false
def delN (L : List Dk.Nm) (n : Dk.Nm) (t : Dk.St) : Dk.St × Int := if n ∈ L then Dk.counted t (Dk.deleteOn n) else (t, 0)
theorem bnd_end (r : Dk.St × Int) : bnd r (fun t => (t, 0)) = r := by
  unfold bnd
  split
  · rename_i h; rw [← h]
  · rfl
theorem sweepF_one (L : List Dk.Nm) (n : Dk.Nm) (t : Dk.St) : sweepF L [n] t = delN L n t := by
  unfold sweepF delN
  split
  · exact bnd_end _
  · rfl
theorem sweepF_two (L : List Dk.Nm) (a b : Dk.Nm) (t : Dk.St) : sweepF L [a, b] t = bnd (delN L a t) (delN L b) := by
  rw [show sweepF L [a, b] t = if a ∈ L then bnd (Dk.counted t (Dk.deleteOn a)) (sweepF L [b]) else sweepF L [b] t from rfl]
  have e : sweepF L [b] = delN L b := funext fun t => sweepF_one L b t
  rw [e]
  unfold delN
  by_cases h : a ∈ L
  · rw [if_pos h, if_pos h]
  · rw [if_neg h, if_neg h, bnd_pair]
theorem rhas_any (w : World) (a : Option Addr) (n c : Nat) (xs : List Tx) (s : Tx) (hn : n = xs.length) (h16 : n ≤ 16) (hs : Sl TE w a c xs) :
    Calls Tryz.prog 78 #[.slice a n c, .string s] w fun e w' => e = .returned (.bool (inn xs s)) ∧ w' = w := by
  have HN : Hid (n = xs.length ∧ Sl TE w a c xs) := ⟨hn, hs⟩
  have hb : (n : Int) ≤ 16 := by omega
  clear hn hs h16
  go_enter Tryz.func78, Tryz.ntmps78
  go_wp2_with fail
  go_loopw [5] (fun i wr => ∃ k : Nat, k ≤ n ∧ i = .int .i64 k ∧ wr = w ∧ Hid (∀ x ∈ xs.take k, x ≠ s)) (fun i _ => n - (intOf i).toNat)
  case atStart => exact ⟨0, by omega, rfl, rfl, fun x hx => by simp at hx⟩
  case round =>
    obtain ⟨k, hk, rfl, rfl, HK⟩ := hrel
    by_cases h2 : k < n
    · have h2' : (k : Int) < n := by omega
      have hkl : k < xs.length := by have := HN.out.1; omega
      obtain ⟨b, off, rfl, d1⟩ := HN.out.2.at hkl
      obtain ⟨x, hx⟩ : ∃ x, x = xs.getD k e0 := ⟨_, rfl⟩
      rw [← hx] at d1
      have hxm : x ∈ xs := by rw [hx]; simp [List.getD, hkl]
      have HT : Hid (xs.take (k + 1) = xs.take k ++ [x]) := by show _ = _; rw [take_succ_getD xs k e0 hkl, ← hx]
      by_cases e : x = s
      · have t1 : (x.toList == s.toList) = true := by rw [e]; simp
        have HI : Hid (inn xs s = true) := (inn_iff xs s).2 (e ▸ hxm)
        clear e hx hxm hkl
        go_wp2_with fail
        go_ret
        rw [HI.out]
        exact ⟨rfl, rfl⟩
      · have t1 : (x.toList == s.toList) = false := by
          rw [beq_eq_false_iff_ne]
          intro h
          exact e ((toList_inj _ _).1 h)
        have HE : Hid (x ≠ s) := e
        clear e hx hxm hkl
        go_wp2_with fail
        go_roundw
        case rel =>
          refine ⟨k + 1, by omega, by go_num, by trivial, fun z hz => ?_⟩
          rw [HT.out] at hz
          rcases List.mem_append.1 hz with h | h
          · exact HK.out z h
          · rw [List.mem_singleton.1 h]; exact HE.out
        case measure => simp [intOf]; omega
    · have h2' : ¬ (k : Int) < n := by omega
      have HI : Hid (inn xs s = false) := by
        refine inn_no fun hm => ?_
        have := HK.out s (by rw [List.take_of_length_le (by have := HN.out.1; omega)]; exact hm)
        exact this rfl
      go_wp2_with fail
      go_ret
      rw [HI.out]
      exact ⟨rfl, rfl⟩
theorem rlog_any (w : World) (ht : PowIn w) (g : Int) (h0 : -9223372036854775808 ≤ g) (h1 : g ≤ 9223372036854775807) :
    Calls Tryz.prog 61 #[.int .i64 g] w fun e w' => e = .returned (.string (logN g)) ∧ Keeps no w w' := by
  have hl : (Lib.itoa g).length ≤ 21 := Lib.itoa_length_le g h0 h1
  have HK := fun (k : Nat) (os : Array Obj) => keeps_growK w k os
  have hadd : ∀ W : World, (Op.stringOp .add (⟨#[108, 111, 103, 46]⟩ : ByteArray) ⟨(Lib.itoa g).toArray⟩).run Tryz.prog W = .ok (.string (logN g)) W := fun W => by
    have := run_string_add_lists (P := Tryz.prog) (w := W) stemB (Lib.itoa g) (by simp [stemB]) (by omega)
    exact this
  go_enter Tryz.func61, Tryz.ntmps61
  go_wp2_with (go_at_call 100; refine (Any.strconv_FormatInt_10 Tryz.laysFormat g h0 h1 _ ht).mono ?_; rintro e w1 ⟨rfl, k, os, rfl⟩)
  go_ret
  exact ⟨rfl, HK k os⟩
structure IsLq (w : World) (q p : Nat) (n : Tx) (k : Nat) : Prop where
  blk : w.heap[q]? = some (.cells #[.pointer (some ⟨p, 0, none⟩), .string n, .int .i64 (k : Nat)] 162 (0, 0))
theorem rOpenNone_any (w : World) (r : Nat) (F : Nat → Prop) (s : Dk.St) (n : Tx) (h : IsRd w r F s) (hf : Dk.find n.data.toList s.fs = none) :
    Calls Tryz.prog 82 #[.pointer (some ⟨r, 0, none⟩), .string n] w fun e w' => (((Dk.tick s).off = true ∧ e = .returned (.tuple #[.pointer none, .slice none 0 0, .int .i64 62])) ∨ ((Dk.tick s).off = false ∧ ∃ q, e = .returned (.tuple #[.pointer (some ⟨q, 0, none⟩), .slice none 0 0, .int .i64 0]) ∧ Hid (IsLq w' q r n 0 ∧ w.heap.size ≤ q ∧ q < w'.heap.size))) ∧ Hid (IsRd w' r F (Dk.tick s) ∧ Keeps F w w') := by
  have hft := find_tick hf
  have hB : Dk.readB n.data.toList (Dk.tick s) = [] := by
    unfold Dk.readB
    split
    · rfl
    · rw [hft]
  have hr := rread_any w r F s n h (by rw [hB]; simp)
  have hE : Dk.readE n.data.toList (Dk.tick s) = if (Dk.tick s).off = true then 62 else 61 := by
    unfold Dk.readE
    rw [hft]
  rw [hE] at hr
  cases off : (Dk.tick s).off with
  | true =>
    rw [off] at hr
    go_enter Tryz.func82, Tryz.ntmps82
    go_wp2_with fail
    refine hr.mono ?_
    rintro e w1 ⟨o1, c1, m1, rfl, _, _, _, hd, hk⟩
    go_wp2_with fail
    go_ret3
    exact ⟨.inl ⟨by trivial, rfl⟩, hd, hk⟩
  | false =>
    rw [off] at hr
    go_enter Tryz.func82, Tryz.ntmps82
    go_wp2_with fail
    refine hr.mono ?_
    rintro e w1 ⟨o1, c1, m1, rfl, _, _, _, hd, hk⟩
    have hb := blk_new w1 (.cells #[.pointer (some ⟨r, 0, none⟩), .string n, .int .i64 0] 162)
    have HX : Hid ((w1.alloc (.cells #[.pointer (some ⟨r, 0, none⟩), .string n, .int .i64 0] 162)).heap[w1.heap.size]? = some (.cells #[.pointer (some ⟨r, 0, none⟩), .string n, .int .i64 0] 162 (0, 0)) ∧ IsRd (w1.alloc (.cells #[.pointer (some ⟨r, 0, none⟩), .string n, .int .i64 0] 162)) r F (Dk.tick s) ∧ Keeps F w (w1.alloc (.cells #[.pointer (some ⟨r, 0, none⟩), .string n, .int .i64 0] 162))) := ⟨hb, hd.keepsN ((Keeps.refl no _).alloc _), hk.alloc _⟩
    clear hb hd
    go_wp2_with fail
    go_ret3
    exact ⟨.inr ⟨by trivial, w1.heap.size, rfl, ⟨⟨HX.out.1⟩, hk.size, lt_of_block HX.out.1⟩⟩, HX.out.2⟩
def Rx (B : Nat → Prop) (w : World) (p : Nat) (s : St) (N : Nat) : Prop := ∃ oK nK cK oL nL cL ks ls, RO B w p oK nK cK oL nL cL ks ls ∧ Rl s ks ls ∧ ks.length ≤ N ∧ Ok s
theorem Rx.keeps {B S : Nat → Prop} {w w' : World} {p : Nat} {s : St} {N : Nat} (h : Rx B w p s N) (hk : Keeps S w w') (hS : ∀ b, B b → ¬ S b) : Rx B w' p s N := by
  obtain ⟨oK, nK, cK, oL, nL, cL, ks, ls, h1, h2, h3, h4⟩ := h
  exact ⟨oK, nK, cK, oL, nL, cL, ks, ls, h1.keeps hk hS, h2, h3, h4⟩
theorem Rx.rm {B : Nat → Prop} {w0 w : World} {p : Nat} {s : St} {N : Nat} (h : Rx B w p s N) (hB : ∀ b, B b → w0.heap.size ≤ b) (hk : Keeps no w0 w) : Rm w0 p s N w := by
  obtain ⟨oK, nK, cK, oL, nL, cL, ks, ls, h1, h2, h3, h4⟩ := h
  exact ⟨oK, nK, cK, oL, nL, cL, ks, ls, h1.mono hB, h2, h3, h4, hk⟩
def Dr (w w' : World) (r : Nat) (F : Nat → Prop) (x : Dk.St × Int) : Prop := ∃ F', (∀ k, F' k → F k ∨ (w.heap.size ≤ k ∧ k < w'.heap.size)) ∧ IsRd w' r F' x.1 ∧ Keeps F w w'
theorem Dr.keepsN {w w' w'' : World} {r : Nat} {F : Nat → Prop} {x : Dk.St × Int} (h : Dr w w' r F x) (hk : Keeps no w' w'') : Dr w w'' r F x := by
  obtain ⟨F', h1, h2, h3⟩ := h
  refine ⟨F', fun k hk' => ?_, h2.keepsN hk, h3.trans hk.of_no⟩
  rcases h1 k hk' with h | h
  · exact .inl h
  · exact .inr ⟨h.1, Nat.lt_of_lt_of_le h.2 hk.size⟩
theorem Dr.step {w w' w'' : World} {r : Nat} {F F' F'' : Nat → Prop} {x : Dk.St × Int} {t : Dk.St} (h1 : ∀ k, F' k → F k ∨ (w.heap.size ≤ k ∧ k < w'.heap.size)) (h3 : Keeps F w w') (hi : IsRd w'' r F'' x.1) (hk : Keeps F' w' w'') (hF : ∀ k, F'' k → F' k ∨ (w'.heap.size ≤ k ∧ k < w''.heap.size)) : Dr w w'' r F x := by
  refine ⟨F'', fun k hk' => ?_, hi, h3.then hk (fun i hi => ?_)⟩
  · have a := h3.size
    have b := hk.size
    rcases hF k hk' with h | h
    · rcases h1 k h with h | h
      · exact .inl h
      · exact .inr ⟨h.1, by omega⟩
    · exact .inr ⟨by omega, h.2⟩
  · rcases h1 i hi with h | h
    · exact .inl h
    · exact .inr h.1
theorem Dr.kept {w0 w w' : World} {r : Nat} {F : Nat → Prop} {x : Dk.St × Int} (h : Dr w w' r F x) (hk : Keeps no w0 w) (hF : ∀ k, F k → w0.heap.size ≤ k) : Keeps no w0 w' := by
  obtain ⟨F', h1, h2, h3⟩ := h
  exact hk.then h3 (fun i hi => .inr (hF i hi))
theorem Dr.own {α : Type} {E : El α} {w w' : World} {r : Nat} {F : Nat → Prop} {x : Dk.St × Int} (h : Dr w w' r F x) {o : Option Addr} {c : Nat} {xs : List α} (ho : Own E w o c xs) (hn : ∀ k, inO o k → ¬ F k) : Own E w' o c xs := by
  obtain ⟨F', h1, h2, h3⟩ := h
  exact ho.keeps h3 hn
theorem Dr.call {w w' : World} {r : Nat} {F : Nat → Prop} {x y : Dk.St × Int} (h : Dr w w' r F x) {f : FuncId} {args : Array Value} (hc : ∀ F', IsRd w' r F' x.1 → Calls Tryz.prog f args w' fun e w2 => e = .returned (.int .i64 y.2) ∧ IsRd w2 r (grow F' w' w2) y.1 ∧ Keeps F' w' w2) : Calls Tryz.prog f args w' fun e w2 => e = .returned (.int .i64 y.2) ∧ Hid (Dr w w2 r F y) := by
  obtain ⟨F', h1, h2, h3⟩ := h
  refine (hc F' h2).mono ?_
  rintro e w2 ⟨rfl, hi, hk⟩
  exact ⟨rfl, Dr.step (t := x.1) h1 h3 hi hk (fun k hk => hk)⟩
def DRunTo (w : World) (r : Nat) (F : Nat → Prop) (s : Dk.St) (st : St) (g : Nat) (e : Ending) (w' : World) : Prop :=
  ∃ (bs : List Nat) (t : Dk.St) (E : Int), Hid (SnOf st (g + 1) bs ∧ runF (u8s bs) g s = (t, E)) ∧ Hid (Dr w w' r F (t, E)) ∧ ((E ≠ 0 ∧ e = .returned (.tuple #[.pointer none, .int .i64 0, .int .i64 E])) ∨ (E = 0 ∧ ∃ l, e = .returned (.tuple #[.pointer (some ⟨l, 0, none⟩), .int .i64 ((g + 1 : Nat) : Int), .int .i64 0]) ∧ Hid (IsLq w' l r (logN ((g + 1 : Nat) : Int)) 0 ∧ w.heap.size ≤ l)))
theorem Dr.back {w0 w w' : World} {r : Nat} {F : Nat → Prop} {x : Dk.St × Int} (h : Dr w w' r F x) (hk : Keeps F w0 w) : Dr w0 w' r F x := by
  obtain ⟨F', h1, h2, h3⟩ := h
  refine ⟨F', fun k hk' => ?_, h2, hk.trans h3⟩
  rcases h1 k hk' with h | h
  · exact .inl h
  · exact .inr ⟨Nat.le_trans hk.size h.1, h.2⟩
set_option maxRecDepth 10000 in
set_option maxHeartbeats 2000000 in
theorem dRun_any {w0 w : World} {r u : Nat} {F B : Nat → Prop} {s : Dk.St} {st : St} {N : Nat} (h : IsRd w r F s) (hF : ∀ k, F k → w0.heap.size ≤ k) (hk0 : Keeps no w0 w) (hS : Rx B w u st N) (hB : ∀ b, B b → w0.heap.size ≤ b ∧ b < w.heap.size ∧ ¬ F b) (hN : N ≤ 2000000) (ht : Tabs w0) (g : Nat) (hg : (g : Int) < 1099511627776) :
    Calls Tryz.prog 36 #[.pointer (some ⟨r, 0, none⟩), .pointer (some ⟨u, 0, none⟩), .int .i64 ((g : Nat) : Int)] w (DRunTo w r F s st g) := by
  have HS : Hid (Rx B w u st N ∧ (∀ b, B b → w0.heap.size ≤ b ∧ b < w.heap.size ∧ ¬ F b) ∧ N ≤ 2000000) := ⟨hS, hB, hN⟩
  have HF0 : Hid (∀ k, F k → w0.heap.size ≤ k) := hF
  have hls := rlist_any w r F s h
  have HLT : Hid (∀ k, F k → k < w.heap.size) := h.lt
  obtain ⟨G, hG⟩ : ∃ G : Int, G = (g : Int) := ⟨_, rfl⟩
  have HG : Hid (G = (g : Int) ∧ (g : Int) < 1099511627776) := ⟨hG, hg⟩
  have n1 : ¬ G < 0 := by omega
  have n2 : ¬ 1099511627775 < G := by omega
  obtain ⟨LN, hLN⟩ : ∃ LN, LN = logN ((g + 1 : Nat) : Int) := ⟨_, rfl⟩
  obtain ⟨LO, hLO⟩ : ∃ LO, LO = logN (g : Int) := ⟨_, rfl⟩
  have HLN : Hid (LN = logN ((g + 1 : Nat) : Int) ∧ LO = logN (g : Int)) := ⟨hLN, hLO⟩
  obtain ⟨BN, hBN⟩ : ∃ BN, BN = LN.data.toList := ⟨_, rfl⟩
  obtain ⟨BO, hBO⟩ : ∃ BO, BO = LO.data.toList := ⟨_, rfl⟩
  have HBN : Hid (BN = logB ((g + 1 : Nat) : Int) ∧ BO = logB (g : Int) ∧ LN.data.toList = BN ∧ LO.data.toList = BO) := ⟨by rw [hBN, hLN]; rfl, by rw [hBO, hLO]; rfl, hBN.symm, hBO.symm⟩
  have hlg : Hid (∀ (W : World), Keeps no w0 W → Calls Tryz.prog 61 #[.int .i64 (G + 1)] W fun e w' => e = .returned (.string LN) ∧ Keeps no W w') := fun W hW => by
    have := rlog_any W (ht.pow.keepsN hW) ((g + 1 : Nat) : Int) (by omega) (by omega)
    rw [← hLN, show ((g + 1 : Nat) : Int) = G + 1 by omega] at this
    exact this
  have hlo : Hid (∀ (W : World), Keeps no w0 W → Calls Tryz.prog 61 #[.int .i64 G] W fun e w' => e = .returned (.string LO) ∧ Keeps no W w') := fun W hW => by
    have := rlog_any W (ht.pow.keepsN hW) (g : Int) (by omega) (by omega)
    rw [← hLO, ← hG] at this
    exact this
  have hgn : Hid (((g + 1 : Nat) : Int) = G + 1) := by show _ = _; omega
  rw [← hG]
  have HK0 : Hid (Keeps no w0 w) := hk0
  clear hS hB hN ht h hG hLN hLO hg hF hk0 hBN hBO
  go_enter Tryz.func36, Tryz.ntmps36
  go_wp2_with fail
  refine hls.mono ?_
  rintro e w1 ⟨o1, c1, m1, rfl, hm1, ho1, hw1, hd1, hk1⟩
  clear hls
  obtain ⟨L, hL⟩ : ∃ L, L = Dk.listN (Dk.tick s) := ⟨_, rfl⟩
  obtain ⟨E0, hE0⟩ : ∃ E, E = Dk.listE (Dk.tick s) := ⟨_, rfl⟩
  obtain ⟨t0, ht0⟩ : ∃ t, t = Dk.tick s := ⟨_, rfl⟩
  rw [← hL] at hm1 ho1
  rw [← hE0]
  have h16 : L.length ≤ 16 := by
    rw [hL]
    have := hd1.ok.len
    unfold Dk.listN
    split
    · simp
    · unfold Dk.names; rw [List.length_map]; exact this
  have HLL : Hid (L = Dk.listN (Dk.tick s) ∧ E0 = Dk.listE (Dk.tick s) ∧ t0 = Dk.tick s) := ⟨hL, hE0, ht0⟩
  have K1 : Hid (Keeps F w w1) := hk1
  have K01 : Hid (Keeps no w0 w1) := HK0.out.then hk1 (fun i hi => .inr (HF0.out i hi))
  have Hw1 : Hid (Dr w1 w1 r F (t0, E0)) := ⟨F, fun k hk => .inl hk, by rw [ht0]; exact hd1, Keeps.refl _ _⟩
  have hnF : ∀ k, inO o1 k → ¬ F k := fun k hk hf => by have := HLT.out k hf; have := hw1 k hk; omega
  have hhas : Hid (∀ (nm : Tx) (W : World) (x : Dk.St × Int), Dr w1 W r F x → Calls Tryz.prog 78 #[.slice o1 m1 c1, .string nm] W fun e w' => e = .returned (.bool (decide (nm.data.toList ∈ L))) ∧ w' = W) := fun nm W x hx => by
    have := rhas_any W o1 m1 c1 (L.map mkT) nm (by rw [List.length_map]; exact hm1.out) (by have := hm1.out; omega) (hx.own ho1 hnF).sl
    have e := inn_mkT L nm.data.toList
    rw [mkT_data] at e
    rw [e] at this
    exact this
  obtain ⟨x1, hx1⟩ : ∃ x, x = bnd (t0, E0) (delN L tmpB) := ⟨_, rfl⟩
  have Hx1 : Hid (x1 = bnd (t0, E0) (delN L tmpB)) := hx1
  clear hL hE0 ht0 hm1 ho1 hw1 hd1 hk1 h16 hnF hx1
  go_wp2_with fail
  refine (hlg.out _ K01.out).mono ?_
  rintro e w2 ⟨rfl, hk2⟩
  have Hw2 : Hid (Dr w1 w2 r F (t0, E0)) := Hw1.out.keepsN hk2
  clear hk2 Hw1
  go_upto_region 6 with fail
  go_cut [46] from 18 (fun sc wr => ∃ c : Bool, sc = .bool c ∧ Hid (c = (decide (E0 = 0) && decide (tmpB ∈ L))) ∧ Hid (Dr w1 wr r F (t0, E0)))
  case first =>
    by_cases hE : E0 = 0
    · have hE1 : (E0 == 0) = true := by simpa using hE
      have HE : Hid (decide (E0 = 0) = true) := decide_eq_true hE
      clear hE
      go_wp2_with fail
      refine (hhas.out tmpN w2 _ Hw2.out).mono ?_
      rintro e wh ⟨rfl, hw⟩
      subst wh
      go_wp2_with fail
      go_meet
      case rel => exact ⟨_, rfl, by show _ = _; rw [HE.out]; rfl, Hw2⟩
    · have hE1 : (E0 == 0) = false := by simpa using hE
      have HE : Hid (decide (E0 = 0) = false) := decide_eq_false hE
      clear hE
      go_wp2_with fail
      go_meet
      case rel => exact ⟨false, rfl, by show _ = _; rw [HE.out]; rfl, Hw2⟩
  case rest =>
  obtain ⟨c, rfl, Hc, Hw2'⟩ := hcut
  rename World => w2'
  go_upto_if 46 with fail
  go_cut [10] from 18 (fun sc wr => ∃ E' : Int, sc = .int .i64 E' ∧ Hid (∃ t', x1 = (t', E') ∧ Dr w1 wr r F (t', E')))
  case first =>
    cases c with
    | true =>
      have hc2 : E0 = 0 ∧ tmpB ∈ L := by have := Hc.out; simpa using this.symm
      have HX : Hid (x1 = Dk.counted t0 (Dk.deleteOn tmpB)) := by
        show _ = _
        rw [Hx1.out, hc2.1, bnd_pair]
        exact if_pos hc2.2
      have hdl := Hw2'.out.call (y := Dk.counted t0 (Dk.deleteOn tmpB)) (fun F' h' => rdelete_any w2' r F' t0 tmpN h')
      clear hc2
      go_wp2_with fail
      refine hdl.mono ?_
      rintro e wh ⟨rfl, Hh⟩
      go_wp2_with fail
      go_meet
      case rel => exact ⟨_, rfl, _, HX.out, Hh.out⟩
    | false =>
      have HX : Hid (x1 = (t0, E0)) := by
        show _ = _
        have hc := Hc.out
        rw [Hx1.out]
        unfold bnd
        by_cases h1 : E0 = 0
        · rw [decide_eq_true h1, Bool.true_and] at hc
          rw [if_pos h1]
          show delN L tmpB t0 = _
          unfold delN
          rw [if_neg (fun h => by rw [decide_eq_true h] at hc; cases hc), h1]
        · rw [if_neg h1]
      go_wp2_with fail
      go_meet
      case rel => exact ⟨_, rfl, _, HX.out, Hw2'.out⟩
  case rest =>
  obtain ⟨E1, rfl, H0⟩ := hcut
  rename World => w3
  obtain ⟨t1, e0x, h0x⟩ := H0.out
  have HXx1 : Hid (x1 = (t1, E1)) := e0x
  have Hw3 : Hid (Dr w1 w3 r F (t1, E1)) := h0x
  clear H0 e0x h0x Hw2' Hc
  obtain ⟨x2, hx2⟩ : ∃ x, x = bnd (t1, E1) (delN L BN) := ⟨_, rfl⟩
  have Hx2 : Hid (x2 = bnd (t1, E1) (delN L BN)) := hx2
  clear hx2
  go_upto_region 8 with fail
  go_cut [56] from 18 (fun sc wr => ∃ c : Bool, sc = .bool c ∧ Hid (c = (decide (E1 = 0) && decide (BN ∈ L))) ∧ Hid (Dr w1 wr r F (t1, E1)))
  case first =>
    by_cases hE : E1 = 0
    · have hE1 : (E1 == 0) = true := by simpa using hE
      have HE : Hid (decide (E1 = 0) = true) := decide_eq_true hE
      clear hE
      go_wp2_with fail
      refine (hhas.out LN w3 _ Hw3.out).mono ?_
      rintro e wh ⟨rfl, hw⟩
      subst wh
      go_wp2_with fail
      go_meet
      case rel => exact ⟨_, rfl, by show _ = _; rw [HE.out, HBN.out.2.2.1]; rfl, Hw3⟩
    · have hE1 : (E1 == 0) = false := by simpa using hE
      have HE : Hid (decide (E1 = 0) = false) := decide_eq_false hE
      clear hE
      go_wp2_with fail
      go_meet
      case rel => exact ⟨false, rfl, by show _ = _; rw [HE.out]; rfl, Hw3⟩
  case rest =>
  obtain ⟨c, rfl, Hc, Hw3'⟩ := hcut
  rename World => w3'
  go_upto_if 56 with fail
  go_cut [10] from 18 (fun sc wr => ∃ E' : Int, sc = .int .i64 E' ∧ Hid (∃ t', x2 = (t', E') ∧ Dr w1 wr r F (t', E')))
  case first =>
    cases c with
    | true =>
      have hc2 : E1 = 0 ∧ BN ∈ L := by have := Hc.out; simpa using this.symm
      have HX : Hid (x2 = Dk.counted t1 (Dk.deleteOn BN)) := by
        show _ = _
        rw [Hx2.out, hc2.1, bnd_pair]
        exact if_pos hc2.2
      have hdl := Hw3'.out.call (y := Dk.counted t1 (Dk.deleteOn BN)) (fun F' h' => by have := rdelete_any w3' r F' t1 LN h'; rw [HBN.out.2.2.1] at this; exact this)
      clear hc2
      go_wp2_with fail
      refine hdl.mono ?_
      rintro e wh ⟨rfl, Hh⟩
      go_wp2_with fail
      go_meet
      case rel => exact ⟨_, rfl, _, HX.out, Hh.out⟩
    | false =>
      have HX : Hid (x2 = (t1, E1)) := by
        show _ = _
        have hc := Hc.out
        rw [Hx2.out]
        unfold bnd
        by_cases h1 : E1 = 0
        · rw [decide_eq_true h1, Bool.true_and] at hc
          rw [if_pos h1]
          show delN L BN t1 = _
          unfold delN
          rw [if_neg (fun h => by rw [decide_eq_true h] at hc; cases hc), h1]
        · rw [if_neg h1]
      go_wp2_with fail
      go_meet
      case rel => exact ⟨_, rfl, _, HX.out, Hw3'.out⟩
  case rest =>
  obtain ⟨E2, rfl, H0⟩ := hcut
  rename World => w4
  obtain ⟨t2, e0x, h0x⟩ := H0.out
  have HXx2 : Hid (x2 = (t2, E2)) := e0x
  have Hw4 : Hid (Dr w1 w4 r F (t2, E2)) := h0x
  clear H0 e0x h0x Hw3' Hc
  have Hbeg : Hid (begS g s = (t2, E2)) := by
    show _ = _
    unfold begS
    rw [← HLL.out.2.2]
    have hl := HLL.out.1
    have he := HLL.out.2.1
    rw [← HLL.out.2.2] at hl he
    unfold Dk.listN at hl
    unfold Dk.listE at he
    cases off : t0.off with
    | true =>
      rw [off] at he
      have he : E0 = 62 := he
      have a1 : x1 = (t0, E0) := by rw [Hx1.out, bnd_bad (by rw [he]; decide)]
      have a2 := HXx1.out
      rw [a1] at a2
      injection a2 with b1 b2
      have a3 : x2 = (t1, E1) := by rw [Hx2.out, bnd_bad (by rw [← b2, he]; decide)]
      have a4 := HXx2.out
      rw [a3] at a4
      rw [if_pos rfl, ← a4, ← b1, ← b2, he]
    | false =>
      rw [off] at he hl
      have he : E0 = 0 := he
      have hl : L = Dk.names t0.fs := hl
      rw [if_neg (by decide), ← hl, ← HBN.out.1, sweepF_two, ← HXx2.out, Hx2.out, ← HXx1.out, Hx1.out, he, bnd_pair]
  have hbd := dBuild_any ((HS.out.1.keeps (S := F) (K1.out.trans (by obtain ⟨F', _, _, hk⟩ := Hw4.out; exact hk)) (fun b hb => (HS.out.2.1 b hb).2.2)).rm (fun b hb => (HS.out.2.1 b hb).1) (Hw4.out.kept K01.out HF0.out)) HS.out.2.2 (g + 1) (by omega) (by have := HG.out.2; omega)
  rw [hgn.out] at hbd
  go_wp2_with fail
  refine hbd.mono ?_
  rintro e w5 ⟨ob, nb, cb, bs, rfl, HB⟩
  clear hbd
  have Hw5 : Hid (Dr w1 w5 r F (t2, E2)) := Hw4.out.keepsN HB.out.2.2.2.2.2.1
  have hU : Hid (nts (u8s bs) = bs) := nts_u8s HB.out.2.2.2.1
  have HOb : Hid (nb = (u8s bs).length ∧ Own BU w5 ob cb (u8s bs) ∧ New w4 ob ∧ (u8s bs).length ≤ 140737488355328) := ⟨by rw [u8s_length]; exact HB.out.2.1, by
      have := HB.out.2.2.1
      rw [← hU.out] at this
      exact own_U.2 this, HB.out.2.2.2.2.2.2, by rw [u8s_length]; exact HB.out.2.2.2.2.1⟩
  have Hw4s : Hid (w4.heap.size ≤ w5.heap.size) := HB.out.2.2.2.2.2.1.size
  obtain ⟨x3, hx3⟩ : ∃ x, x = bnd (t2, E2) (fun t => Dk.counted t (Dk.appendOn tmpB (u8s bs))) := ⟨_, rfl⟩
  have Hx3 : Hid (x3 = bnd (t2, E2) (fun t => Dk.counted t (Dk.appendOn tmpB (u8s bs)))) := hx3
  clear hx3
  have hapC : Hid (E2 = 0 → ∀ F', (∀ k, F' k → k < w4.heap.size) → IsRd w5 r F' t2 → Calls Tryz.prog 28 #[.pointer (some ⟨r, 0, none⟩), .string tmpN, .slice ob nb cb] w5 fun e w' => e = .returned (.int .i64 (Dk.counted t2 (Dk.appendOn tmpB (u8s bs))).2) ∧ IsRd w' r (grow F' w5 w') (Dk.counted t2 (Dk.appendOn tmpB (u8s bs))).1 ∧ Keeps F' w5 w') := fun hE F' hlt hi => by
    have hz := beg_zero (g := g) (s := s) (by rw [Hbeg.out]; exact hE)
    rw [Hbeg.out] at hz
    exact rappend_any w5 r F' t2 tmpN ob nb cb (u8s bs) hi HOb.out.1 HOb.out.2.1.cap.2 (fun W hW => (HOb.out.2.1.keeps hW (fun k hk hf => by have := HOb.out.2.2.1 k hk; have := hlt k hf; omega)).row) HOb.out.2.2.2 (fun f hf => by rw [show Dk.find tmpN.data.toList (Dk.tick t2).fs = none from find_tick hz.2] at hf; cases hf)
  go_upto_if 71 with fail
  go_cut [10] from 18 (fun sc wr => ∃ E' : Int, sc = .int .i64 E' ∧ Hid (∃ t', x3 = (t', E') ∧ Dr w1 wr r F (t', E')))
  case first =>
    by_cases hE : E2 = 0
    · have HX : Hid (x3 = Dk.counted t2 (Dk.appendOn tmpB (u8s bs))) := by
        show _ = _
        rw [Hx3.out, hE, bnd_pair]
      have hE1 : (E2 == 0) = true := by simpa using hE
      obtain ⟨F4, f1, f2, f3⟩ := Hw4.out
      have hcl := hapC.out hE F4 f2.lt (f2.keepsN HB.out.2.2.2.2.2.1)
      have HF4 : Hid ((∀ k, F4 k → F k ∨ (w1.heap.size ≤ k ∧ k < w5.heap.size)) ∧ Keeps F w1 w5) := ⟨fun k hk => by rcases f1 k hk with h | h; exact .inl h; exact .inr ⟨h.1, Nat.lt_of_lt_of_le h.2 Hw4s.out⟩, f3.trans HB.out.2.2.2.2.2.1.of_no⟩
      clear hE f1 f2 f3
      go_wp2_with fail
      refine hcl.mono ?_
      rintro e wh ⟨rfl, hh, hkh⟩
      have Hh : Hid (Dr w1 wh r F (Dk.counted t2 (Dk.appendOn tmpB (u8s bs)))) := Dr.step (t := t2) HF4.out.1 HF4.out.2 hh hkh (fun k hk => hk)
      clear hh hkh
      go_wp2_with fail
      go_meet
      case rel => exact ⟨_, rfl, _, HX.out, Hh.out⟩
    · have HX : Hid (x3 = (t2, E2)) := by
        show _ = _
        rw [Hx3.out, bnd_bad hE]
      have hE1 : (E2 == 0) = false := by simpa using hE
      clear hE
      go_wp2_with fail
      go_meet
      case rel => exact ⟨_, rfl, _, HX.out, Hw5.out⟩
  case rest =>
  obtain ⟨E3, rfl, H0⟩ := hcut
  rename World => w6
  obtain ⟨t3, e0x, h0x⟩ := H0.out
  have HXx3 : Hid (x3 = (t3, E3)) := e0x
  have Hw6 : Hid (Dr w1 w6 r F (t3, E3)) := h0x
  clear H0 e0x h0x Hw5 Hw4 hapC HOb
  obtain ⟨x4, hx4⟩ : ∃ x, x = bnd (t3, E3) (fun t => Dk.counted t (Dk.syncOn tmpB)) := ⟨_, rfl⟩
  have Hx4 : Hid (x4 = bnd (t3, E3) (fun t => Dk.counted t (Dk.syncOn tmpB))) := hx4
  clear hx4
  go_upto_if 77 with fail
  go_cut [10] from 18 (fun sc wr => ∃ E' : Int, sc = .int .i64 E' ∧ Hid (∃ t', x4 = (t', E') ∧ Dr w1 wr r F (t', E')))
  case first =>
    by_cases hE : E3 = 0
    · have HX : Hid (x4 = Dk.counted t3 (Dk.syncOn tmpB)) := by
        show _ = _
        rw [Hx4.out, hE, bnd_pair]
      have hE1 : (E3 == 0) = true := by simpa using hE
      have hcl := Hw6.out.call (y := Dk.counted t3 (Dk.syncOn tmpB)) (fun F' h' => (rsync_any w6 r F' t3 tmpN h').mono (fun e w2 ⟨a, b, c⟩ => ⟨a, b.grow, c⟩))
      clear hE
      go_wp2_with fail
      refine hcl.mono ?_
      rintro e wh ⟨rfl, Hh⟩
      go_wp2_with fail
      go_meet
      case rel => exact ⟨_, rfl, _, HX.out, Hh.out⟩
    · have HX : Hid (x4 = (t3, E3)) := by
        show _ = _
        rw [Hx4.out, bnd_bad hE]
      have hE1 : (E3 == 0) = false := by simpa using hE
      clear hE
      go_wp2_with fail
      go_meet
      case rel => exact ⟨_, rfl, _, HX.out, Hw6.out⟩
  case rest =>
  obtain ⟨E4, rfl, H0⟩ := hcut
  rename World => w7
  obtain ⟨t4, e0x, h0x⟩ := H0.out
  have HXx4 : Hid (x4 = (t4, E4)) := e0x
  have Hw7 : Hid (Dr w1 w7 r F (t4, E4)) := h0x
  clear H0 e0x h0x
  obtain ⟨x5, hx5⟩ : ∃ x, x = bnd (t4, E4) (fun t => Dk.counted t (Dk.renameOn tmpB snapB)) := ⟨_, rfl⟩
  have Hx5 : Hid (x5 = bnd (t4, E4) (fun t => Dk.counted t (Dk.renameOn tmpB snapB))) := hx5
  clear hx5
  go_upto_if 82 with fail
  go_cut [10] from 18 (fun sc wr => ∃ E' : Int, sc = .int .i64 E' ∧ Hid (∃ t', x5 = (t', E') ∧ Dr w1 wr r F (t', E')))
  case first =>
    by_cases hE : E4 = 0
    · have HX : Hid (x5 = Dk.counted t4 (Dk.renameOn tmpB snapB)) := by
        show _ = _
        rw [Hx5.out, hE, bnd_pair]
      have hE1 : (E4 == 0) = true := by simpa using hE
      have hcl := Hw7.out.call (y := Dk.counted t4 (Dk.renameOn tmpB snapB)) (fun F' h' => rrename_any w7 r F' t4 tmpN snapN h')
      clear hE
      go_wp2_with fail
      refine hcl.mono ?_
      rintro e wh ⟨rfl, Hh⟩
      go_wp2_with fail
      go_meet
      case rel => exact ⟨_, rfl, _, HX.out, Hh.out⟩
    · have HX : Hid (x5 = (t4, E4)) := by
        show _ = _
        rw [Hx5.out, bnd_bad hE]
      have hE1 : (E4 == 0) = false := by simpa using hE
      clear hE
      go_wp2_with fail
      go_meet
      case rel => exact ⟨_, rfl, _, HX.out, Hw7.out⟩
  case rest =>
  obtain ⟨E5, rfl, H0⟩ := hcut
  rename World => w8
  obtain ⟨t5, e0x, h0x⟩ := H0.out
  have HXx5 : Hid (x5 = (t5, E5)) := e0x
  have Hw8 : Hid (Dr w1 w8 r F (t5, E5)) := h0x
  clear H0 e0x h0x
  obtain ⟨x6, hx6⟩ : ∃ x, x = bnd (t5, E5) (delN L BO) := ⟨_, rfl⟩
  have Hx6 : Hid (x6 = bnd (t5, E5) (delN L BO)) := hx6
  clear hx6
  go_upto_region 19 with fail
  go_cut [93] from 18 (fun sc wr => ∃ c : Bool, sc = .bool c ∧ Hid (c = (decide (E5 = 0) && decide (BO ∈ L))) ∧ Hid (Dr w1 wr r F (t5, E5)))
  case first =>
    by_cases hE : E5 = 0
    · have hE1 : (E5 == 0) = true := by simpa using hE
      have HE : Hid (decide (E5 = 0) = true) := decide_eq_true hE
      clear hE
      go_wp2_with fail
      refine (hlo.out _ (Hw8.out.kept K01.out HF0.out)).mono ?_
      rintro e wl ⟨rfl, hkl⟩
      have Hl : Hid (Dr w1 wl r F (t5, E5)) := Hw8.out.keepsN hkl
      clear hkl
      go_wp2_with fail
      refine (hhas.out LO wl _ Hl.out).mono ?_
      rintro e wh ⟨rfl, hw⟩
      subst wh
      go_wp2_with fail
      go_meet
      case rel => exact ⟨_, rfl, by show _ = _; rw [HE.out, HBN.out.2.2.2]; rfl, Hl⟩
    · have hE1 : (E5 == 0) = false := by simpa using hE
      have HE : Hid (decide (E5 = 0) = false) := decide_eq_false hE
      clear hE
      go_wp2_with fail
      go_meet
      case rel => exact ⟨false, rfl, by show _ = _; rw [HE.out]; rfl, Hw8⟩
  case rest =>
  obtain ⟨c, rfl, Hc, Hw8'⟩ := hcut
  rename World => w8'
  go_upto_if 93 with fail
  go_cut [10] from 18 (fun sc wr => ∃ E' : Int, sc = .int .i64 E' ∧ Hid (∃ t', x6 = (t', E') ∧ Dr w1 wr r F (t', E')))
  case first =>
    cases c with
    | true =>
      have hc2 : E5 = 0 ∧ BO ∈ L := by have := Hc.out; simpa using this.symm
      have HX : Hid (x6 = Dk.counted t5 (Dk.deleteOn BO)) := by
        show _ = _
        rw [Hx6.out, hc2.1, bnd_pair]
        exact if_pos hc2.2
      clear hc2
      go_wp2_with fail
      refine (hlo.out _ (Hw8'.out.kept K01.out HF0.out)).mono ?_
      rintro e wl ⟨rfl, hkl⟩
      have Hl : Hid (Dr w1 wl r F (t5, E5)) := Hw8'.out.keepsN hkl
      have hdl := Hl.out.call (y := Dk.counted t5 (Dk.deleteOn BO)) (fun F' h' => by have := rdelete_any wl r F' t5 LO h'; rw [HBN.out.2.2.2] at this; exact this)
      clear hkl
      go_wp2_with fail
      refine hdl.mono ?_
      rintro e wh ⟨rfl, Hh⟩
      go_wp2_with fail
      go_meet
      case rel => exact ⟨_, rfl, _, HX.out, Hh.out⟩
    | false =>
      have HX : Hid (x6 = (t5, E5)) := by
        show _ = _
        have hc := Hc.out
        rw [Hx6.out]
        unfold bnd
        by_cases h1 : E5 = 0
        · rw [decide_eq_true h1, Bool.true_and] at hc
          rw [if_pos h1]
          show delN L BO t5 = _
          unfold delN
          rw [if_neg (fun h => by rw [decide_eq_true h] at hc; cases hc), h1]
        · rw [if_neg h1]
      go_wp2_with fail
      go_meet
      case rel => exact ⟨_, rfl, _, HX.out, Hw8'.out⟩
  case rest =>
  obtain ⟨E6, rfl, H0⟩ := hcut
  rename World => w9
  obtain ⟨t6, e0x, h0x⟩ := H0.out
  have HXx6 : Hid (x6 = (t6, E6)) := e0x
  have Hw9 : Hid (Dr w1 w9 r F (t6, E6)) := h0x
  clear H0 e0x h0x Hw8' Hc
  have Hrun : Hid (runS (u8s bs) g s = (t6, E6)) := by
    show _ = _
    have hl := HLL.out.1
    unfold runS layS
    rw [Hbeg.out, ← HXx6.out, Hx6.out, ← HXx5.out, Hx5.out, ← HXx4.out, Hx4.out, ← HXx3.out, Hx3.out]
    have hob : (Dk.tick s).off = true ∨ L = Dk.names (Dk.tick s).fs := by
      cases off : (Dk.tick s).off with
      | true => exact .inl rfl
      | false => rw [hl]; unfold Dk.listN; rw [off]; exact .inr rfl
    have e1 : ∀ (t : Dk.St) (E : Int) (f : Dk.St → Dk.St × Int) (h : Dk.St → Dk.St × Int) (k : Dk.St → Dk.St × Int), bnd (t, E) (fun t => bnd (bnd (f t) h) k) = bnd (bnd (bnd (t, E) f) h) k := fun t E f h k => by
      by_cases hE : E = 0
      · subst hE; rw [bnd_pair, bnd_pair]
      · rw [bnd_bad hE, bnd_bad hE, bnd_bad hE, bnd_bad hE]
    rw [show (fun t => bnd (bnd (Dk.counted t (Dk.appendOn tmpB (u8s bs))) fun t => Dk.counted t (Dk.syncOn tmpB)) fun t => Dk.counted t (Dk.renameOn tmpB snapB)) = layS (u8s bs) from rfl] at *
    have e2 := e1 t2 E2 (fun t => Dk.counted t (Dk.appendOn tmpB (u8s bs))) (fun t => Dk.counted t (Dk.syncOn tmpB)) (fun t => Dk.counted t (Dk.renameOn tmpB snapB))
    rw [← e2]
    rcases hob with h | h
    · have : begS g s = (Dk.tick s, 62) := by unfold begS; rw [h]; rfl
      rw [Hbeg.out] at this
      injection this with _ h62
      have n62 : E2 ≠ 0 := by rw [h62]; decide
      simp only [bnd_bad n62]
    · rw [← h, ← HBN.out.2.1]
      congr 1
      exact funext fun t => sweepF_one L BO t
  by_cases hE6 : E6 = 0
  case neg =>
    have hE1 : (E6 == 0) = false := by simpa using hE6
    have HR : Hid (runF (u8s bs) g s = (t6, E6) ∧ E6 ≠ 0) := ⟨by unfold runF; rw [Hrun.out, bnd_bad hE6], hE6⟩
    go_wp2_with fail
    go_ret3
    exact ⟨bs, t6, E6, ⟨HB.out.1, HR.out.1⟩, Hw9.out.back K1.out, .inl ⟨HR.out.2, rfl⟩⟩
  subst hE6
  have hgo := run_gone (show (runS (u8s bs) g s).2 = 0 by rw [Hrun.out])
  rw [Hrun.out] at hgo
  have HGo : Hid (t6.off = false ∧ Dk.find (logB ((g + 1 : Nat) : Int)) t6.fs = none) := hgo
  have HRF : Hid (runF (u8s bs) g s = (Dk.tick t6, if (Dk.tick t6).off = true then 62 else 0)) := by
    show _ = _
    unfold runF
    rw [Hrun.out, bnd_pair]
  clear hgo
  obtain ⟨F9, f1, f2, f3⟩ := Hw9.out
  have hop := rOpenNone_any w9 r F9 t6 LN f2 (by rw [HBN.out.2.2.1, HBN.out.1]; exact HGo.out.2)
  have HF9 : Hid ((∀ k, F9 k → F k ∨ (w1.heap.size ≤ k ∧ k < w9.heap.size)) ∧ Keeps F w1 w9) := ⟨f1, f3⟩
  clear f1 f2 f3
  go_wp2_with fail
  refine hop.mono ?_
  rintro e w10 ⟨hcase, HD10⟩
  clear hop
  have HD : Hid (∀ E, Dr w w10 r F (Dk.tick t6, E)) := fun E => (Dr.step (t := t6) HF9.out.1 HF9.out.2 (x := (Dk.tick t6, E)) HD10.out.1 HD10.out.2 (fun k hk => .inl hk)).back K1.out
  have HSz : Hid (w.heap.size ≤ w9.heap.size) := Nat.le_trans K1.out.size HF9.out.2.size
  rcases hcase with ⟨off, rfl⟩ | ⟨off, l, rfl, HL⟩
  · have HRF' : Hid (runF (u8s bs) g s = (Dk.tick t6, 62)) := by show _ = _; rw [HRF.out, off]; rfl
    clear off
    go_wp2_with fail
    go_ret3
    exact ⟨bs, _, 62, ⟨HB.out.1, HRF'.out⟩, HD.out 62, .inl ⟨by decide, rfl⟩⟩
  · have HRF' : Hid (runF (u8s bs) g s = (Dk.tick t6, 0)) := by show _ = _; rw [HRF.out, off]; rfl
    clear off
    go_wp2_with fail
    go_ret3
    exact ⟨bs, _, 0, ⟨HB.out.1, HRF'.out⟩, HD.out 0, .inr ⟨rfl, l, by rw [hgn.out]; rfl, by rw [← HLN.out.1]; exact HL.out.1, Nat.le_trans HSz.out HL.out.2.1⟩⟩
end Go.Proofs.YtdemoghlibnooaaGreatDoor
