import Derived.Test.YtdemoghlibnooaaGreatDoorG1
import Derived.Test.YtdemoghlibnooaaGreatDoorR2
import Derived.Deep.RegionHeld3
import Derived.Deep.CutBlock
import Derived.Deep.QuietTactic
import Derived.Lib.QuietBelow
import Derived.BigQuiet
namespace Go.Proofs.YtdemoghlibnooaaGreatDoor
open Go.RowKit Pk Dk
set_option linter.unusedVariables false
set_option linter.unusedSimpArgs false
def nts (l : List UInt8) : List Nat := l.map UInt8.toNat
def u8s (l : List Nat) : List UInt8 := l.map UInt8.ofNat
theorem nts_length (l : List UInt8) : (nts l).length = l.length := by simp [nts]
theorem u8s_length (l : List Nat) : (u8s l).length = l.length := by simp [u8s]
theorem nts_lt (l : List UInt8) : ∀ x ∈ nts l, x < 256 := by
  intro x hx
  obtain ⟨c, _, rfl⟩ := List.mem_map.1 hx
  exact c.toNat_lt
theorem nts_u8s : ∀ {l : List Nat}, (∀ x ∈ l, x < 256) → nts (u8s l) = l
  | [], _ => rfl
  | a :: r, h => by
    have h1 := nts_u8s (l := r) (fun x hx => h x (List.mem_cons_of_mem _ hx))
    have h2 : (UInt8.ofNat a).toNat = a := by
      have := h a (List.mem_cons_self ..)
      simp [UInt8.toNat_ofNat]; omega
    simp only [nts, u8s, List.map_cons] at h1 ⊢
    rw [h1, h2]
theorem cells_nts (l : List UInt8) : BU.cells l = vals (nts l) := by
  rw [cells_U]
  simp [vals, nts, bv]
theorem own_U {w : World} {o : Option Addr} {c : Nat} {l : List UInt8} : Own BU w o c l ↔ Owns w o c (nts l) := by
  unfold Own Owns
  rw [cells_nts, nts_length]
  exact Iff.rfl
def Sc (b : List Nat) (rs : List Rec) (k : Nat) : Prop := Run b rs k ∧ (parse (b.drop k)).2.2 ≠ 0
theorem Sc.one {b : List Nat} {rs rs' : List Rec} {k k' : Nat} (h : Sc b rs k) (h' : Sc b rs' k') : rs = rs' ∧ k = k' := h.1.one (e := 0) (e' := 0) h'.1 h.2 h'.2
inductive Opn (n : Nm) (s : St) : St → Int → Nat → List Rec → Prop
  | gone (h : readE n (tick s) = 61) : Opn n s (tick s) 0 0 []
  | err (h : readE n (tick s) ≠ 61) (h0 : readE n (tick s) ≠ 0) : Opn n s (tick s) (readE n (tick s)) 0 []
  | whole {rs : List Rec} {k : Nat} (h : readE n (tick s) = 0) (hs : Sc (nts (readB n (tick s))) rs k) (hk : ¬ k < (readB n (tick s)).length) : Opn n s (tick s) 0 k rs
  | cut {rs : List Rec} {k : Nat} (h : readE n (tick s) = 0) (hs : Sc (nts (readB n (tick s))) rs k) (hk : k < (readB n (tick s)).length) (hc : (counted (tick s) (cutOn n k)).2 = 0) : Opn n s (counted (tick s) (cutOn n k)).1 0 k rs
  | fail {rs : List Rec} {k : Nat} (h : readE n (tick s) = 0) (hs : Sc (nts (readB n (tick s))) rs k) (hk : k < (readB n (tick s)).length) (hc : (counted (tick s) (cutOn n k)).2 ≠ 0) : Opn n s (counted (tick s) (cutOn n k)).1 (counted (tick s) (cutOn n k)).2 0 []
theorem Opn.one {n : Nm} {s s1 s2 : St} {e1 e2 : Int} {k1 k2 : Nat} {r1 r2 : List Rec} (h1 : Opn n s s1 e1 k1 r1) (h2 : Opn n s s2 e2 k2 r2) : s1 = s2 ∧ e1 = e2 ∧ k1 = k2 ∧ r1 = r2 := by
  cases h1 with
  | gone h =>
    cases h2 with
    | gone _ => exact ⟨rfl, rfl, rfl, rfl⟩
    | err a _ => exact absurd h a
    | whole a _ _ => rw [h] at a; exact absurd a (by decide)
    | cut a _ _ _ => rw [h] at a; exact absurd a (by decide)
    | fail a _ _ _ => rw [h] at a; exact absurd a (by decide)
  | err h h0 =>
    cases h2 with
    | gone a => exact absurd a h
    | err _ _ => exact ⟨rfl, rfl, rfl, rfl⟩
    | whole a _ _ => exact absurd a h0
    | cut a _ _ _ => exact absurd a h0
    | fail a _ _ _ => exact absurd a h0
  | whole h hs hk =>
    cases h2 with
    | gone a => rw [h] at a; exact absurd a (by decide)
    | err _ a => exact absurd h a
    | whole _ hs' _ => obtain ⟨rfl, rfl⟩ := hs.one hs'; exact ⟨rfl, rfl, rfl, rfl⟩
    | cut _ hs' hk' _ => obtain ⟨rfl, rfl⟩ := hs.one hs'; exact absurd hk' hk
    | fail _ hs' hk' _ => obtain ⟨rfl, rfl⟩ := hs.one hs'; exact absurd hk' hk
  | cut h hs hk hc =>
    cases h2 with
    | gone a => rw [h] at a; exact absurd a (by decide)
    | err _ a => exact absurd h a
    | whole _ hs' hk' => obtain ⟨rfl, rfl⟩ := hs.one hs'; exact absurd hk hk'
    | cut _ hs' _ _ => obtain ⟨rfl, rfl⟩ := hs.one hs'; exact ⟨rfl, rfl, rfl, rfl⟩
    | fail _ hs' _ hc' => obtain ⟨rfl, rfl⟩ := hs.one hs'; exact absurd hc hc'
  | fail h hs hk hc =>
    cases h2 with
    | gone a => rw [h] at a; exact absurd a (by decide)
    | err _ a => exact absurd h a
    | whole _ hs' hk' => obtain ⟨rfl, rfl⟩ := hs.one hs'; exact absurd hk hk'
    | cut _ hs' _ hc' => obtain ⟨rfl, rfl⟩ := hs.one hs'; exact absurd hc' hc
    | fail _ hs' _ _ => obtain ⟨rfl, rfl⟩ := hs.one hs'; exact ⟨rfl, rfl, rfl, rfl⟩
structure IsL (w : World) (q p : Nat) (n : Tx) (k : Nat) : Prop where
  blk : w.heap[q]? = some (.cells #[.pointer (some ⟨p, 0, none⟩), .string n, .int .i64 (k : Nat)] 125 (0, 0))
theorem IsL.keeps {S : Nat → Prop} {w w' : World} {q p : Nat} {n : Tx} {k : Nat} (h : IsL w q p n k) (hk : Keeps S w w') (hq : ¬ S q) : IsL w' q p n k := ⟨hk.at h.blk hq⟩
theorem Scn.keepsF {S : Nat → Prop} {w w' w'' : World} {o : Option Addr} {c : Nat} {vs : List CV} {rs : List Rec} (h : Scn w w' o c vs rs) (hk : Keeps S w' w'') (hS : ∀ j, S j → j < w.heap.size) : Scn w w'' o c vs rs :=
  ⟨h.own.keeps hk (fun j hj hs => by have := h.new j hj; have := hS j hs; omega), h.new, h.len, fun j hj => (h.each j hj).keeps hk hS, h.sep⟩
theorem Scn.of_le {w0 w w' : World} {o : Option Addr} {c : Nat} {vs : List CV} {rs : List Rec} (h : Scn w w' o c vs rs) (hl : w0.heap.size ≤ w.heap.size) : Scn w0 w' o c vs rs :=
  ⟨h.own, h.new.of_le hl, h.len, fun j hj => (h.each j hj).of_le hl, h.sep⟩
def NoLog (w : World) (p : Nat) (F : Nat → Prop) (s : St) (n : Tx) (e : Ending) (w' : World) : Prop :=
  ∃ (s' : St) (E : Int), e = .returned (.tuple #[.pointer none, .slice none 0 0, .int .i64 E]) ∧ Hid (Opn n.data.toList s s' E 0 []) ∧ E ≠ 0 ∧ Hid (IsD w' p F s') ∧ Hid (Keeps F w w')
def ALog (w : World) (p : Nat) (F : Nat → Prop) (s : St) (n : Tx) (e : Ending) (w' : World) : Prop :=
  ∃ (s' : St) (q : Nat) (o : Option Addr) (m c k : Nat) (vs : List CV) (rs : List Rec), e = .returned (.tuple #[.pointer (some ⟨q, 0, none⟩), .slice o m c, .int .i64 0]) ∧ Hid (Opn n.data.toList s s' 0 k rs) ∧ Hid (m = rs.length) ∧ Hid (IsL w' q p n k ∧ w.heap.size ≤ q) ∧ Hid (Scn w w' o c vs rs) ∧ (k : Int) ≤ 1099511627776 ∧ (m : Int) ≤ 137438953472 ∧ Hid (IsD w' p F s') ∧ Hid (Keeps F w w')
def OpenTo (w : World) (p : Nat) (F : Nat → Prop) (s : St) (n : Tx) (e : Ending) (w' : World) : Prop := NoLog w p F s n e w' ∨ ALog w p F s n e w'
end Go.Proofs.YtdemoghlibnooaaGreatDoor
namespace Go.Proofs.YtdemoghlibnooaaGreatDoor
open Go.RowKit Pk Dk
set_option linter.unusedVariables false
set_option linter.unusedSimpArgs false
theorem readB_gone {n : Nm} {s : St} (h : readE n s = 61) : readB n s = [] := by
  unfold readE at h
  unfold readB
  split
  · rfl
  · rename_i ho
    rw [if_neg ho] at h
    split
    · rfl
    · rename_i f hf
      rw [hf] at h
      cases h
theorem Sc.none {b : List Nat} {rs : List Rec} {k : Nat} (h : Sc b rs k) (hb : b = []) : rs = [] ∧ k = 0 := by
  subst hb
  have := h.1.le (by simp)
  simp only [List.length_nil] at this
  exact ⟨List.length_eq_zero_iff.1 (by omega), by omega⟩
set_option maxRecDepth 10000 in
set_option maxHeartbeats 1000000 in
theorem Open_any (w : World) (p : Nat) (F : Nat → Prop) (s : St) (n : Tx) (h : IsD w p F s) (hn : n.size ≤ 281474976710656) (ht : TabIn w) (h0 : ¬ F 2) (hb : (readB n.data.toList (tick s)).length ≤ 1099511627776) :
    Calls Tryz.prog 51 #[.pointer (some ⟨p, 0, none⟩), .string n] w (OpenTo w p F s n) := by
  have HLT : Hid (∀ k, F k → k < w.heap.size) := h.lt
  have HD : Hid (IsD w p F s) := h
  have HB : Hid ((readB n.data.toList (tick s)).length ≤ 1099511627776) := hb
  have HN : Hid (n.size ≤ maxLen) := by unfold maxLen; exact (by omega : n.size ≤ 9223372036854775807)
  have HN2 : Hid (n.size ≤ 281474976710656) := hn
  clear h hb hn
  go_enter Tryz.func51, Tryz.ntmps51
  go_wp2_with fail
  refine (dread_any w p F s n HD.out HN.out (by have := HB.out; omega)).mono ?_
  rintro e w1 ⟨o, c, m, rfl, hm, hown, hnew, hD1, hk1⟩
  have H1 : Hid (Owns w1 o c (nts (readB n.data.toList (tick s)))) := own_U.1 hown
  have HD1 : Hid (IsD w1 p F (tick s)) := hD1
  have HK1 : Hid (Keeps F w w1) := hk1
  have hmb : (m : Int) ≤ 1099511627776 := by have := HB.out; have := hm.out; omega
  have HNW : Hid (New w o) := hnew
  clear hown hD1 hk1 HD hnew
  obtain ⟨E, hE⟩ : ∃ E, E = readE n.data.toList (tick s) := ⟨_, rfl⟩
  have HE : Hid (E = readE n.data.toList (tick s)) := hE
  rw [← hE]
  clear hE
  by_cases h61 : E = 61
  · subst h61
    have HB0 : Hid (readB n.data.toList (tick s) = []) := readB_gone HE.out.symm
    have hm0 : (m : Int) = 0 := by have := hm.out; rw [HB0.out] at this; simp only [List.length_nil] at this; omega
    go_wp2_with fail
    refine (Scan_any w1 o m c (nts (readB n.data.toList (tick s))) (by rw [nts_length]; exact hm.out) hmb ⟨H1.out.row (nts_lt _) (by rw [nts_length]; have := HB.out; omega), H1.out.cap.1, H1.out.cap.2⟩ (ht.keeps HK1.out h0)).mono ?_
    rintro e w2 ⟨ol, nl, cl, t, vs, rs, rfl, HSC, hnl, htl, hk2⟩
    have HS : Hid (Sc (nts (readB n.data.toList (tick s))) rs t) := ⟨HSC.out.2.2.1, HSC.out.2.2.2⟩
    have HC : Hid (Scn w1 w2 ol cl vs rs ∧ nl = rs.length) := ⟨HSC.out.1, HSC.out.2.1⟩
    have HD2 : Hid (IsD w2 p F (tick s)) := HD1.out.keepsN hk2
    have HK2 : Hid (Keeps F w w2) := HK1.out.then hk2 (fun _ h => h.elim)
    have HZ : Hid (rs = [] ∧ t = 0) := HS.out.none (by rw [HB0.out]; rfl)
    have ht0 : (t : Int) = 0 := by have := HZ.out.2; omega
    have htm' : ¬ (t : Int) < m := by omega
    clear HSC hk2
    go_wp2_with fail
    refine (sclone_anyW _ n HN2.out).mono ?_
    rintro e w3 ⟨rfl, hk3⟩
    have HK3 : Hid (Keeps no w2 w3) := hk3
    clear hk3
    go_wp2_with fail
    go_ret3
    have hz := HZ.out
    have hc2 := HC.out
    obtain ⟨rfl, rfl⟩ := hz
    exact .inr ⟨tick s, w3.heap.size, ol, nl, cl, 0, vs, [], rfl, .gone HE.out.symm, hc2.2, ⟨⟨blk_new w3 _⟩, Nat.le_trans HK2.out.size HK3.out.size⟩, (hc2.1.of_le HK1.out.size).keepsN (HK3.out.alloc _), by omega, hnl, HD2.out.keepsN (HK3.out.alloc _), (HK2.out.then HK3.out (fun _ h => h.elim)).alloc _⟩
  · have h61' : (E == 61) = false := by simpa using h61
    by_cases hE0 : E = 0
    · subst hE0
      go_wp2_with fail
      refine (Scan_any w1 o m c (nts (readB n.data.toList (tick s))) (by rw [nts_length]; exact hm.out) hmb ⟨H1.out.row (nts_lt _) (by rw [nts_length]; have := HB.out; omega), H1.out.cap.1, H1.out.cap.2⟩ (ht.keeps HK1.out h0)).mono ?_
      rintro e w2 ⟨ol, nl, cl, t, vs, rs, rfl, HSC, hnl, htl, hk2⟩
      have HS : Hid (Sc (nts (readB n.data.toList (tick s))) rs t) := ⟨HSC.out.2.2.1, HSC.out.2.2.2⟩
      have HC : Hid (Scn w1 w2 ol cl vs rs ∧ nl = rs.length) := ⟨HSC.out.1, HSC.out.2.1⟩
      have HD2 : Hid (IsD w2 p F (tick s)) := HD1.out.keepsN hk2
      have HK2 : Hid (Keeps F w w2) := HK1.out.then hk2 (fun _ h => h.elim)
      have HK12 : Hid (w1.heap.size ≤ w2.heap.size) := hk2.size
      clear HSC hk2
      by_cases htm : t < m
      · have htm' : (t : Int) < m := by omega
        go_wp2_with fail
        refine (cut_any w2 p F (tick s) n t HD2.out HN.out ⟨by omega, by omega⟩).mono ?_
        rintro e w3 ⟨rfl, hD3, hk3⟩
        have HD3 : Hid (IsD w3 p F (counted (tick s) (cutOn n.data.toList t)).1) := hD3
        have HK3 : Hid (Keeps F w w3) := HK2.out.trans hk3
        have HK23 : Hid (Keeps F w2 w3) := hk3
        clear hD3 hk3
        obtain ⟨G, hG⟩ : ∃ G, G = (counted (tick s) (cutOn n.data.toList t)).2 := ⟨_, rfl⟩
        have HG : Hid (G = (counted (tick s) (cutOn n.data.toList t)).2) := hG
        rw [← hG]
        clear hG
        by_cases hG0 : G = 0
        · subst hG0
          go_wp2_with fail
          refine (sclone_anyW _ n HN2.out).mono ?_
          rintro e w4 ⟨rfl, hk4⟩
          have HK4 : Hid (Keeps no w3 w4) := hk4
          clear hk4
          go_wp2_with fail
          go_ret3
          exact .inr ⟨_, w4.heap.size, ol, nl, cl, t, vs, rs, rfl, .cut HE.out.symm HS.out (by have := hm.out; omega) HG.out.symm, HC.out.2, ⟨⟨blk_new w4 _⟩, Nat.le_trans HK3.out.size HK4.out.size⟩, ((HC.out.1.of_le HK1.out.size).keepsF HK23.out HLT.out).keepsN (HK4.out.alloc _), htl, hnl, HD3.out.keepsN (HK4.out.alloc _), (HK3.out.then HK4.out (fun _ h => h.elim)).alloc _⟩
        · have hG1 : (G == 0) = false := by simpa using hG0
          go_wp2_with fail
          go_ret3
          exact .inl ⟨_, G, rfl, HG.out ▸ .fail HE.out.symm HS.out (by have := hm.out; omega) (by rw [← HG.out]; exact hG0), hG0, HD3.out, HK3.out⟩
      · have htm' : ¬ (t : Int) < m := by omega
        go_wp2_with fail
        refine (sclone_anyW _ n HN2.out).mono ?_
        rintro e w3 ⟨rfl, hk3⟩
        have HK3 : Hid (Keeps no w2 w3) := hk3
        clear hk3
        go_wp2_with fail
        go_ret3
        exact .inr ⟨tick s, w3.heap.size, ol, nl, cl, t, vs, rs, rfl, .whole HE.out.symm HS.out (by have := hm.out; omega), HC.out.2, ⟨⟨blk_new w3 _⟩, Nat.le_trans HK2.out.size HK3.out.size⟩, (HC.out.1.of_le HK1.out.size).keepsN (HK3.out.alloc _), htl, hnl, HD2.out.keepsN (HK3.out.alloc _), (HK2.out.then HK3.out (fun _ h => h.elim)).alloc _⟩
    · have hE1 : (E == 0) = false := by simpa using hE0
      have hE2 : (E != 0) = true := by simpa using hE0
      have hE3 : (E != 61) = true := by simpa using h61
      go_wp2_with fail
      go_ret3
      exact .inl ⟨tick s, E, rfl, HE.out ▸ .err (by rw [← HE.out]; exact h61) (by rw [← HE.out]; exact hE0), hE0, HD1.out, HK1.out⟩
end Go.Proofs.YtdemoghlibnooaaGreatDoor
namespace Go.Proofs.YtdemoghlibnooaaGreatDoor
open Go.RowKit Pk Dk
set_option linter.unusedVariables false
set_option linter.unusedSimpArgs false
theorem IsL.cells {w : World} {q p : Nat} {n : Tx} {k : Nat} (h : IsL w q p n k) : w.cell? ⟨q, 0, none⟩ = some (.pointer (some ⟨p, 0, none⟩)) ∧ w.cell? ⟨q, 1, none⟩ = some (.string n) ∧ w.cell? ⟨q, 2, none⟩ = some (.int .i64 (k : Nat)) ∧ w.frozen? ⟨q, 2, none⟩ = false := ⟨cell_of_blk h.blk 0, cell_of_blk h.blk 1, cell_of_blk h.blk 2, frozen_of_blk h.blk 2⟩
end Go.Proofs.YtdemoghlibnooaaGreatDoor
namespace Go.Proofs.YtdemoghlibnooaaGreatDoor
open Go.RowKit Pk
set_option linter.unusedVariables false
set_option linter.unusedSimpArgs false
end Go.Proofs.YtdemoghlibnooaaGreatDoor
namespace Go.Proofs.YtdemoghlibnooaaGreatDoor
open Go.RowKit Pk
set_option linter.unusedVariables false
set_option linter.unusedSimpArgs false
end Go.Proofs.YtdemoghlibnooaaGreatDoor
namespace Go.Proofs.YtdemoghlibnooaaGreatDoor
open Go.RowKit Pk
set_option linter.unusedVariables false
set_option linter.unusedSimpArgs false
theorem LogSize_any (w : World) (q p : Nat) (n : Tx) (k : Nat) (h : IsL w q p n k) : Calls Tryz.prog 21 #[.pointer (some ⟨q, 0, none⟩)] w fun e w' => e = .returned (.int .i64 (k : Nat)) ∧ w' = w := by
  obtain ⟨c0, c1, c2, _⟩ := h.cells
  go_enter Tryz.func21, Tryz.ntmps21
  go_wp2_with fail
  go_ret
  exact ⟨rfl, rfl⟩
theorem LogName_any (w : World) (q p : Nat) (n : Tx) (k : Nat) (h : IsL w q p n k) : Calls Tryz.prog 38 #[.pointer (some ⟨q, 0, none⟩)] w fun e w' => e = .returned (.string n) ∧ w' = w := by
  obtain ⟨c0, c1, c2, _⟩ := h.cells
  go_enter Tryz.func38, Tryz.ntmps38
  go_wp2_with fail
  go_ret
  exact ⟨rfl, rfl⟩
end Go.Proofs.YtdemoghlibnooaaGreatDoor
namespace Go.Proofs.YtdemoghlibnooaaGreatDoor
open Go.RowKit Pk
set_option linter.unusedVariables false
set_option linter.unusedSimpArgs false
def cmR (q : Nat) : Rec := ⟨2, q * 65536, [], []⟩
end Go.Proofs.YtdemoghlibnooaaGreatDoor
namespace Go.Proofs.YtdemoghlibnooaaGreatDoor
open Go.RowKit Go.Sort Orl Pk Dk
set_option linter.unusedVariables false
set_option linter.unusedSimpArgs false
structure Gd (r : Rec) : Prop where
  may : may r = true
  id : r.id < 18446744073709551616
  len : (body r).length ≤ 1048576
structure On (s : St) : Prop where
  off : s.off = false
  calls : s.calls = -1
theorem On.tick {s : St} (h : On s) : tick s = s := by
  unfold Dk.tick
  rw [h.calls, if_neg (by decide), if_neg (by decide)]
theorem On.counted {s : St} (h : On s) (g : St → St × Int) : counted s g = g s := by
  unfold Dk.counted
  rw [h.tick, h.off]
  rfl
theorem On.readB {s : St} (h : On s) (n : Nm) : Dk.readB n s = match find n s.fs with | none => [] | some f => f.bs := by
  unfold Dk.readB
  rw [h.off]
  rfl
def bsOf (n : Nm) (s : St) : List UInt8 := match find n s.fs with | none => [] | some f => f.bs
def syOf (n : Nm) (s : St) : Nat := match find n s.fs with | none => 0 | some f => f.sy
def lay1 (n : Nm) (f : Fl) (s : St) : St := { s with fs := put n f s.fs }
theorem On.lay1 {s : St} (h : On s) (n : Nm) (f : Fl) : On (lay1 n f s) := ⟨h.off, h.calls⟩
theorem find_lay1 (n : Nm) (f : Fl) (s : St) : find n (lay1 n f s).fs = some f := find_put_same _
def Room (n : Nm) (s : St) : Prop := find n s.fs = none → s.fs.length < 16
theorem noRoom_no {b : List UInt8} {s : St} (hr : s.ref = 0) : noRoom b s = false := by
  unfold noRoom
  rw [hr]
  simp
theorem app_on {s : St} {n : Nm} {b : List UInt8} (h : On s) (hr : s.ref = 0) (hn : good n = true) (hm : Room n s) : counted s (appendOn n b) = (lay1 n ⟨bsOf n s ++ b, syOf n s⟩ s, 0) := by
  rw [h.counted]
  unfold appendOn
  rw [if_pos hn, noRoom_no hr]
  cases hf : find n s.fs with
  | none =>
    have := hm hf
    simp only [if_neg (by omega : ¬ 16 ≤ s.fs.length), bsOf, syOf, hf]
    rfl
  | some f =>
    simp only [bsOf, syOf, hf]
    rfl
theorem sync_on {s : St} {n : Nm} {f : Fl} (h : On s) (hf : find n s.fs = some f) : counted s (syncOn n) = (lay1 n ⟨f.bs, f.bs.length⟩ s, 0) := by
  rw [h.counted]
  unfold syncOn onF
  rw [hf]
  rfl
def fl (b : List UInt8) : Fl := ⟨b, b.length⟩
end Go.Proofs.YtdemoghlibnooaaGreatDoor
namespace Go.Proofs.YtdemoghlibnooaaGreatDoor
open Go.RowKit Pk Dk
set_option linter.unusedVariables false
set_option linter.unusedSimpArgs false
theorem tab_pos {w : World} (h : TabIn w) : 2 < w.heap.size := by
  have h0 := h 0 (by decide)
  rcases Nat.lt_or_ge 2 w.heap.size with hz | hz
  · exact hz
  · have hn : w.heap[2]? = none := Array.getElem?_eq_none (by omega)
    simp [World.cell?, hn] at h0
theorem Dn.tab {w0 w : World} {p : Nat} {F : Nat → Prop} {s : St} (h : Dn w0 w p F s) (ht : TabIn w0) : TabIn w := ht.keepsN h.kept
theorem Dn.no0 {w0 w : World} {p : Nat} {F : Nat → Prop} {s : St} (h : Dn w0 w p F s) (ht : TabIn w0) : ¬ F 2 := fun h0 => by
  have := h.new 2 h0
  have := tab_pos ht
  omega
def DOpenTo (w0 w : World) (p : Nat) (F : Nat → Prop) (s' : St) (n : Tx) (k : Nat) (rs : List Rec) (e : Ending) (w' : World) : Prop :=
  ∃ (q : Nat) (o : Option Addr) (m c : Nat) (vs : List CV), e = .returned (.tuple #[.pointer (some ⟨q, 0, none⟩), .slice o m c, .int .i64 0]) ∧ Hid (m = rs.length) ∧ Hid (IsL w' q p n k ∧ w.heap.size ≤ q ∧ ¬ F q) ∧ Hid (Scn w w' o c vs rs) ∧ Hid (Dn w0 w' p F s') ∧ Hid (Keeps F w w')
theorem dn_open {w0 w : World} {p : Nat} {F : Nat → Prop} {s s' : St} {k : Nat} {rs : List Rec} (n : Tx) (h : Dn w0 w p F s) (ht : TabIn w0) (hO : Opn n.data.toList s s' 0 k rs) (hn : n.size ≤ 281474976710656) (hb : (readB n.data.toList (tick s)).length ≤ 1099511627776) :
    Calls Tryz.prog 51 #[.pointer (some ⟨p, 0, none⟩), .string n] w (DOpenTo w0 w p F s' n k rs) := by
  refine (Open_any w p F s n h.is hn (h.tab ht) (h.no0 ht) hb).mono ?_
  rintro e w' (⟨s2, E, rfl, hO2, hE, hi, hk⟩ | ⟨s2, q, o, m, c, k2, vs, rs2, rfl, hO2, hm, hL, hS, _, _, hi, hk⟩)
  · exact absurd (hO.one hO2.out).2.1.symm hE
  · obtain ⟨rfl, _, rfl, rfl⟩ := hO.one hO2.out
    exact ⟨q, o, m, c, vs, rfl, hm, ⟨hL.out.1, hL.out.2, fun hF => by have := h.is.lt q hF; have := hL.out.2; omega⟩, hS, h.same hi.out hk.out, hk⟩
theorem dn_open_no {w0 w : World} {p : Nat} {F : Nat → Prop} {s s' : St} {E : Int} (n : Tx) (h : Dn w0 w p F s) (ht : TabIn w0) (hO : Opn n.data.toList s s' E 0 []) (hE : E ≠ 0) (hn : n.size ≤ 281474976710656) (hb : (readB n.data.toList (tick s)).length ≤ 1099511627776) :
    Calls Tryz.prog 51 #[.pointer (some ⟨p, 0, none⟩), .string n] w fun e w' => e = .returned (.tuple #[.pointer none, .slice none 0 0, .int .i64 E]) ∧ Hid (Dn w0 w' p F s') ∧ Hid (Keeps F w w') := by
  refine (Open_any w p F s n h.is hn (h.tab ht) (h.no0 ht) hb).mono ?_
  rintro e w' (⟨s2, E2, rfl, hO2, hE2, hi, hk⟩ | ⟨s2, q, o, m, c, k2, vs, rs2, rfl, hO2, hm, hL, hS, _, _, hi, hk⟩)
  · obtain ⟨rfl, rfl, _, _⟩ := hO.one hO2.out
    exact ⟨rfl, h.same hi.out hk.out, hk⟩
  · exact absurd (hO.one hO2.out).2.1 hE
end Go.Proofs.YtdemoghlibnooaaGreatDoor
namespace Go.Proofs.YtdemoghlibnooaaGreatDoor
open Go.RowKit Pk Dk
set_option linter.unusedVariables false
set_option linter.unusedSimpArgs false
def cb (q : Nat) : List UInt8 := u8s (enc (cmR q))
end Go.Proofs.YtdemoghlibnooaaGreatDoor
namespace Go.Proofs.YtdemoghlibnooaaGreatDoor
open Go.RowKit Pk Dk
set_option linter.unusedVariables false
set_option linter.unusedSimpArgs false
end Go.Proofs.YtdemoghlibnooaaGreatDoor
namespace Go.Proofs.YtdemoghlibnooaaGreatDoor
open Go.RowKit Pk Dk
set_option linter.unusedVariables false
set_option linter.unusedSimpArgs false
end Go.Proofs.YtdemoghlibnooaaGreatDoor
namespace Go.Proofs.YtdemoghlibnooaaGreatDoor
open Go.RowKit Pk Dk
set_option linter.unusedVariables false
set_option linter.unusedSimpArgs false
end Go.Proofs.YtdemoghlibnooaaGreatDoor
namespace Go.Proofs.YtdemoghlibnooaaGreatDoor
open Go.RowKit Pk Dk
set_option linter.unusedVariables false
set_option linter.unusedSimpArgs false
end Go.Proofs.YtdemoghlibnooaaGreatDoor
