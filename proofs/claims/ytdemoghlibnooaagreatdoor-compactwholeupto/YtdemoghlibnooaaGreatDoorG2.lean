import Derived.Test.YtdemoghlibnooaaGreatDoorG1
import Derived.Test.YtdemoghlibnooaaGreatDoorR2
import Derived.Deep.RegionHeld3
import Derived.Deep.CutBlock
import Derived.Deep.QuietTactic
/- Bytes as disk's texts and as record's texts say them; what Open of a log does, in pure lists. -/
namespace Go.Proofs.YtdemoghlibnooaaGreatDoor
open Go.RowKit Pk Dk
set_option linter.unusedVariables false
set_option linter.unusedSimpArgs false

def nts (l : List UInt8) : List Nat := l.map UInt8.toNat
def u8s (l : List Nat) : List UInt8 := l.map UInt8.ofNat
theorem nts_length (l : List UInt8) : (nts l).length = l.length := by simp [nts]
theorem u8s_length (l : List Nat) : (u8s l).length = l.length := by simp [u8s]
theorem nts_append (a b : List UInt8) : nts (a ++ b) = nts a ++ nts b := by simp [nts]
theorem nts_take (l : List UInt8) (k : Nat) : nts (l.take k) = (nts l).take k := by simp [nts, List.map_take]
theorem nts_lt (l : List UInt8) : ∀ x ∈ nts l, x < 256 := by
  intro x hx
  obtain ⟨c, _, rfl⟩ := List.mem_map.1 hx
  exact c.toNat_lt
theorem nts_u8s : ∀ {l : List Nat}, (∀ x ∈ l, x < 256) → nts (u8s l) = l
  | [], _ => rfl
  | a :: r, h => by
    have h1 := nts_u8s (l := r) (fun x hx => h x (List.mem_cons_of_mem _ hx))
    have h2 : (UInt8.ofNat a).toNat = a := by
      have := h a (List.mem_cons_self ..)
      simp [UInt8.toNat_ofNat]; omega
    simp only [nts, u8s, List.map_cons] at h1 ⊢
    rw [h1, h2]
theorem u8s_nts (l : List UInt8) : u8s (nts l) = l := by
  induction l with
  | nil => rfl
  | cons a r ih =>
    simp only [nts, u8s, List.map_cons] at ih ⊢
    rw [ih]
    simp
theorem nts_inj {a b : List UInt8} (h : nts a = nts b) : a = b := by rw [← u8s_nts a, ← u8s_nts b, h]
theorem cells_nts (l : List UInt8) : BU.cells l = vals (nts l) := by
  rw [cells_U]
  simp [vals, nts, bv]
theorem own_U {w : World} {o : Option Addr} {c : Nat} {l : List UInt8} : Own BU w o c l ↔ Owns w o c (nts l) := by
  unfold Own Owns
  rw [cells_nts, nts_length]
  exact Iff.rfl
theorem own_u8 {w : World} {o : Option Addr} {c : Nat} {l : List Nat} (hb : ∀ x ∈ l, x < 256) (h : Owns w o c l) : Own BU w o c (u8s l) := own_U.2 (by rw [nts_u8s hb]; exact h)
/-- what Scan tells: whole records, and then none -/
def Sc (b : List Nat) (rs : List Rec) (k : Nat) : Prop := Run b rs k ∧ (parse (b.drop k)).2.2 ≠ 0
theorem Sc.one {b : List Nat} {rs rs' : List Rec} {k k' : Nat} (h : Sc b rs k) (h' : Sc b rs' k') : rs = rs' ∧ k = k' := h.1.one (e := 0) (e' := 0) h'.1 h.2 h'.2
/-- Open: the disk behind it, the error, the size, the records -/
inductive Opn (n : Nm) (s : St) : St → Int → Nat → List Rec → Prop
  | gone (h : readE n (tick s) = 61) : Opn n s (tick s) 0 0 []
  | err (h : readE n (tick s) ≠ 61) (h0 : readE n (tick s) ≠ 0) : Opn n s (tick s) (readE n (tick s)) 0 []
  | whole {rs : List Rec} {k : Nat} (h : readE n (tick s) = 0) (hs : Sc (nts (readB n (tick s))) rs k) (hk : ¬ k < (readB n (tick s)).length) : Opn n s (tick s) 0 k rs
  | cut {rs : List Rec} {k : Nat} (h : readE n (tick s) = 0) (hs : Sc (nts (readB n (tick s))) rs k) (hk : k < (readB n (tick s)).length) (hc : (counted (tick s) (cutOn n k)).2 = 0) : Opn n s (counted (tick s) (cutOn n k)).1 0 k rs
  | fail {rs : List Rec} {k : Nat} (h : readE n (tick s) = 0) (hs : Sc (nts (readB n (tick s))) rs k) (hk : k < (readB n (tick s)).length) (hc : (counted (tick s) (cutOn n k)).2 ≠ 0) : Opn n s (counted (tick s) (cutOn n k)).1 (counted (tick s) (cutOn n k)).2 0 []
theorem Opn.one {n : Nm} {s s1 s2 : St} {e1 e2 : Int} {k1 k2 : Nat} {r1 r2 : List Rec} (h1 : Opn n s s1 e1 k1 r1) (h2 : Opn n s s2 e2 k2 r2) : s1 = s2 ∧ e1 = e2 ∧ k1 = k2 ∧ r1 = r2 := by
  cases h1 with
  | gone h =>
    cases h2 with
    | gone _ => exact ⟨rfl, rfl, rfl, rfl⟩
    | err a _ => exact absurd h a
    | whole a _ _ => rw [h] at a; exact absurd a (by decide)
    | cut a _ _ _ => rw [h] at a; exact absurd a (by decide)
    | fail a _ _ _ => rw [h] at a; exact absurd a (by decide)
  | err h h0 =>
    cases h2 with
    | gone a => exact absurd a h
    | err _ _ => exact ⟨rfl, rfl, rfl, rfl⟩
    | whole a _ _ => exact absurd a h0
    | cut a _ _ _ => exact absurd a h0
    | fail a _ _ _ => exact absurd a h0
  | whole h hs hk =>
    cases h2 with
    | gone a => rw [h] at a; exact absurd a (by decide)
    | err _ a => exact absurd h a
    | whole _ hs' _ => obtain ⟨rfl, rfl⟩ := hs.one hs'; exact ⟨rfl, rfl, rfl, rfl⟩
    | cut _ hs' hk' _ => obtain ⟨rfl, rfl⟩ := hs.one hs'; exact absurd hk' hk
    | fail _ hs' hk' _ => obtain ⟨rfl, rfl⟩ := hs.one hs'; exact absurd hk' hk
  | cut h hs hk hc =>
    cases h2 with
    | gone a => rw [h] at a; exact absurd a (by decide)
    | err _ a => exact absurd h a
    | whole _ hs' hk' => obtain ⟨rfl, rfl⟩ := hs.one hs'; exact absurd hk hk'
    | cut _ hs' _ _ => obtain ⟨rfl, rfl⟩ := hs.one hs'; exact ⟨rfl, rfl, rfl, rfl⟩
    | fail _ hs' _ hc' => obtain ⟨rfl, rfl⟩ := hs.one hs'; exact absurd hc hc'
  | fail h hs hk hc =>
    cases h2 with
    | gone a => rw [h] at a; exact absurd a (by decide)
    | err _ a => exact absurd h a
    | whole _ hs' hk' => obtain ⟨rfl, rfl⟩ := hs.one hs'; exact absurd hk hk'
    | cut _ hs' _ hc' => obtain ⟨rfl, rfl⟩ := hs.one hs'; exact absurd hc' hc
    | fail _ hs' _ _ => obtain ⟨rfl, rfl⟩ := hs.one hs'; exact ⟨rfl, rfl, rfl, rfl⟩
/-- a log: a file of a disk -/
structure IsL (w : World) (q p : Nat) (n : Tx) (k : Nat) : Prop where
  blk : w.heap[q]? = some (.cells #[.pointer (some ⟨p, 0, none⟩), .string n, .int .i64 (k : Nat)] 125 (0, 0))
theorem IsL.keeps {S : Nat → Prop} {w w' : World} {q p : Nat} {n : Tx} {k : Nat} (h : IsL w q p n k) (hk : Keeps S w w') (hq : ¬ S q) : IsL w' q p n k := ⟨hk.at h.blk hq⟩
theorem Scn.keepsF {S : Nat → Prop} {w w' w'' : World} {o : Option Addr} {c : Nat} {vs : List CV} {rs : List Rec} (h : Scn w w' o c vs rs) (hk : Keeps S w' w'') (hS : ∀ j, S j → j < w.heap.size) : Scn w w'' o c vs rs :=
  ⟨h.own.keeps hk (fun j hj hs => by have := h.new j hj; have := hS j hs; omega), h.new, h.len, fun j hj => (h.each j hj).keeps hk hS, h.sep⟩
theorem Scn.of_le {w0 w w' : World} {o : Option Addr} {c : Nat} {vs : List CV} {rs : List Rec} (h : Scn w w' o c vs rs) (hl : w0.heap.size ≤ w.heap.size) : Scn w0 w' o c vs rs :=
  ⟨h.own, h.new.of_le hl, h.len, fun j hj => (h.each j hj).of_le hl, h.sep⟩
/-- Open told no log -/
def NoLog (w : World) (p : Nat) (F : Nat → Prop) (s : St) (n : Tx) (e : Ending) (w' : World) : Prop :=
  ∃ (s' : St) (E : Int), e = .returned (.tuple #[.pointer none, .slice none 0 0, .int .i64 E]) ∧ Hid (Opn n.data.toList s s' E 0 []) ∧ E ≠ 0 ∧ Hid (IsD w' p F s') ∧ Hid (Keeps F w w')
/-- a log, and its records -/
def ALog (w : World) (p : Nat) (F : Nat → Prop) (s : St) (n : Tx) (e : Ending) (w' : World) : Prop :=
  ∃ (s' : St) (q : Nat) (o : Option Addr) (m c k : Nat) (vs : List CV) (rs : List Rec), e = .returned (.tuple #[.pointer (some ⟨q, 0, none⟩), .slice o m c, .int .i64 0]) ∧ Hid (Opn n.data.toList s s' 0 k rs) ∧ Hid (m = rs.length) ∧ Hid (IsL w' q p n k ∧ w.heap.size ≤ q) ∧ Hid (Scn w w' o c vs rs) ∧ (k : Int) ≤ 1099511627776 ∧ (m : Int) ≤ 137438953472 ∧ Hid (IsD w' p F s') ∧ Hid (Keeps F w w')
def OpenTo (w : World) (p : Nat) (F : Nat → Prop) (s : St) (n : Tx) (e : Ending) (w' : World) : Prop := NoLog w p F s n e w' ∨ ALog w p F s n e w'
end Go.Proofs.YtdemoghlibnooaaGreatDoor
/- The log's calls: Open. -/
namespace Go.Proofs.YtdemoghlibnooaaGreatDoor
open Go.RowKit Pk Dk
set_option linter.unusedVariables false
set_option linter.unusedSimpArgs false

theorem readB_gone {n : Nm} {s : St} (h : readE n s = 61) : readB n s = [] := by
  unfold readE at h
  unfold readB
  split
  · rfl
  · rename_i ho
    rw [if_neg ho] at h
    split
    · rfl
    · rename_i f hf
      rw [hf] at h
      cases h
/-- no bytes: no records -/
theorem Sc.none {b : List Nat} {rs : List Rec} {k : Nat} (h : Sc b rs k) (hb : b = []) : rs = [] ∧ k = 0 := by
  subst hb
  have := h.1.le (by simp)
  simp only [List.length_nil] at this
  exact ⟨List.length_eq_zero_iff.1 (by omega), by omega⟩

set_option maxRecDepth 10000 in
set_option maxHeartbeats 1000000 in
theorem Open_any (w : World) (p : Nat) (F : Nat → Prop) (s : St) (n : Tx) (h : IsD w p F s) (hn : n.size ≤ 281474976710656) (ht : TabIn w) (h0 : ¬ F 2) (hb : (readB n.data.toList (tick s)).length ≤ 1099511627776) :
    Calls Tryz.prog 51 #[.pointer (some ⟨p, 0, none⟩), .string n] w (OpenTo w p F s n) := by
  have HLT : Hid (∀ k, F k → k < w.heap.size) := h.lt
  have HD : Hid (IsD w p F s) := h
  have HB : Hid ((readB n.data.toList (tick s)).length ≤ 1099511627776) := hb
  have HN : Hid (n.size ≤ maxLen) := by unfold maxLen; exact (by omega : n.size ≤ 9223372036854775807)
  have HN2 : Hid (n.size ≤ 281474976710656) := hn
  clear h hb hn
  go_enter Tryz.func51, Tryz.ntmps51
  go_wp2_with fail
  refine (dread_any w p F s n HD.out HN.out (by have := HB.out; omega)).mono ?_
  rintro e w1 ⟨o, c, m, rfl, hm, hown, hnew, hD1, hk1⟩
  have H1 : Hid (Owns w1 o c (nts (readB n.data.toList (tick s)))) := own_U.1 hown
  have HD1 : Hid (IsD w1 p F (tick s)) := hD1
  have HK1 : Hid (Keeps F w w1) := hk1
  have hmb : (m : Int) ≤ 1099511627776 := by have := HB.out; have := hm.out; omega
  have HNW : Hid (New w o) := hnew
  clear hown hD1 hk1 HD hnew
  obtain ⟨E, hE⟩ : ∃ E, E = readE n.data.toList (tick s) := ⟨_, rfl⟩
  have HE : Hid (E = readE n.data.toList (tick s)) := hE
  rw [← hE]
  clear hE
  by_cases h61 : E = 61
  · subst h61
    have HB0 : Hid (readB n.data.toList (tick s) = []) := readB_gone HE.out.symm
    have hm0 : (m : Int) = 0 := by have := hm.out; rw [HB0.out] at this; simp only [List.length_nil] at this; omega
    go_wp2_with fail
    refine (Scan_any w1 o m c (nts (readB n.data.toList (tick s))) (by rw [nts_length]; exact hm.out) hmb ⟨H1.out.row (nts_lt _) (by rw [nts_length]; have := HB.out; omega), H1.out.cap.1, H1.out.cap.2⟩ (ht.keeps HK1.out h0)).mono ?_
    rintro e w2 ⟨ol, nl, cl, t, vs, rs, rfl, HSC, hnl, htl, hk2⟩
    have HS : Hid (Sc (nts (readB n.data.toList (tick s))) rs t) := ⟨HSC.out.2.2.1, HSC.out.2.2.2⟩
    have HC : Hid (Scn w1 w2 ol cl vs rs ∧ nl = rs.length) := ⟨HSC.out.1, HSC.out.2.1⟩
    have HD2 : Hid (IsD w2 p F (tick s)) := HD1.out.keepsN hk2
    have HK2 : Hid (Keeps F w w2) := HK1.out.then hk2 (fun _ h => h.elim)
    have HZ : Hid (rs = [] ∧ t = 0) := HS.out.none (by rw [HB0.out]; rfl)
    have ht0 : (t : Int) = 0 := by have := HZ.out.2; omega
    have htm' : ¬ (t : Int) < m := by omega
    clear HSC hk2
    go_wp2_with fail
    refine (sclone_anyW _ n HN2.out).mono ?_
    rintro e w3 ⟨rfl, hk3⟩
    have HK3 : Hid (Keeps no w2 w3) := hk3
    clear hk3
    go_wp2_with fail
    go_ret3
    have hz := HZ.out
    have hc2 := HC.out
    obtain ⟨rfl, rfl⟩ := hz
    exact .inr ⟨tick s, w3.heap.size, ol, nl, cl, 0, vs, [], rfl, .gone HE.out.symm, hc2.2, ⟨⟨blk_new w3 _⟩, Nat.le_trans HK2.out.size HK3.out.size⟩, (hc2.1.of_le HK1.out.size).keepsN (HK3.out.alloc _), by omega, hnl, HD2.out.keepsN (HK3.out.alloc _), (HK2.out.then HK3.out (fun _ h => h.elim)).alloc _⟩
  · have h61' : (E == 61) = false := by simpa using h61
    by_cases hE0 : E = 0
    · subst hE0
      go_wp2_with fail
      refine (Scan_any w1 o m c (nts (readB n.data.toList (tick s))) (by rw [nts_length]; exact hm.out) hmb ⟨H1.out.row (nts_lt _) (by rw [nts_length]; have := HB.out; omega), H1.out.cap.1, H1.out.cap.2⟩ (ht.keeps HK1.out h0)).mono ?_
      rintro e w2 ⟨ol, nl, cl, t, vs, rs, rfl, HSC, hnl, htl, hk2⟩
      have HS : Hid (Sc (nts (readB n.data.toList (tick s))) rs t) := ⟨HSC.out.2.2.1, HSC.out.2.2.2⟩
      have HC : Hid (Scn w1 w2 ol cl vs rs ∧ nl = rs.length) := ⟨HSC.out.1, HSC.out.2.1⟩
      have HD2 : Hid (IsD w2 p F (tick s)) := HD1.out.keepsN hk2
      have HK2 : Hid (Keeps F w w2) := HK1.out.then hk2 (fun _ h => h.elim)
      have HK12 : Hid (w1.heap.size ≤ w2.heap.size) := hk2.size
      clear HSC hk2
      by_cases htm : t < m
      · have htm' : (t : Int) < m := by omega
        go_wp2_with fail
        refine (cut_any w2 p F (tick s) n t HD2.out HN.out ⟨by omega, by omega⟩).mono ?_
        rintro e w3 ⟨rfl, hD3, hk3⟩
        have HD3 : Hid (IsD w3 p F (counted (tick s) (cutOn n.data.toList t)).1) := hD3
        have HK3 : Hid (Keeps F w w3) := HK2.out.trans hk3
        have HK23 : Hid (Keeps F w2 w3) := hk3
        clear hD3 hk3
        obtain ⟨G, hG⟩ : ∃ G, G = (counted (tick s) (cutOn n.data.toList t)).2 := ⟨_, rfl⟩
        have HG : Hid (G = (counted (tick s) (cutOn n.data.toList t)).2) := hG
        rw [← hG]
        clear hG
        by_cases hG0 : G = 0
        · subst hG0
          go_wp2_with fail
          refine (sclone_anyW _ n HN2.out).mono ?_
          rintro e w4 ⟨rfl, hk4⟩
          have HK4 : Hid (Keeps no w3 w4) := hk4
          clear hk4
          go_wp2_with fail
          go_ret3
          exact .inr ⟨_, w4.heap.size, ol, nl, cl, t, vs, rs, rfl, .cut HE.out.symm HS.out (by have := hm.out; omega) HG.out.symm, HC.out.2, ⟨⟨blk_new w4 _⟩, Nat.le_trans HK3.out.size HK4.out.size⟩, ((HC.out.1.of_le HK1.out.size).keepsF HK23.out HLT.out).keepsN (HK4.out.alloc _), htl, hnl, HD3.out.keepsN (HK4.out.alloc _), (HK3.out.then HK4.out (fun _ h => h.elim)).alloc _⟩
        · have hG1 : (G == 0) = false := by simpa using hG0
          go_wp2_with fail
          go_ret3
          exact .inl ⟨_, G, rfl, HG.out ▸ .fail HE.out.symm HS.out (by have := hm.out; omega) (by rw [← HG.out]; exact hG0), hG0, HD3.out, HK3.out⟩
      · have htm' : ¬ (t : Int) < m := by omega
        go_wp2_with fail
        refine (sclone_anyW _ n HN2.out).mono ?_
        rintro e w3 ⟨rfl, hk3⟩
        have HK3 : Hid (Keeps no w2 w3) := hk3
        clear hk3
        go_wp2_with fail
        go_ret3
        exact .inr ⟨tick s, w3.heap.size, ol, nl, cl, t, vs, rs, rfl, .whole HE.out.symm HS.out (by have := hm.out; omega), HC.out.2, ⟨⟨blk_new w3 _⟩, Nat.le_trans HK2.out.size HK3.out.size⟩, (HC.out.1.of_le HK1.out.size).keepsN (HK3.out.alloc _), htl, hnl, HD2.out.keepsN (HK3.out.alloc _), (HK2.out.then HK3.out (fun _ h => h.elim)).alloc _⟩
    · have hE1 : (E == 0) = false := by simpa using hE0
      have hE2 : (E != 0) = true := by simpa using hE0
      have hE3 : (E != 61) = true := by simpa using h61
      go_wp2_with fail
      go_ret3
      exact .inl ⟨tick s, E, rfl, HE.out ▸ .err (by rw [← HE.out]; exact h61) (by rw [← HE.out]; exact hE0), hE0, HD1.out, HK1.out⟩
end Go.Proofs.YtdemoghlibnooaaGreatDoor
/- The log's calls: Append, Size, Name. -/
namespace Go.Proofs.YtdemoghlibnooaaGreatDoor
open Go.RowKit Pk Dk
set_option linter.unusedVariables false
set_option linter.unusedSimpArgs false

/-- Append to a log: the disk behind it, the error -/
def apd (n : Nm) (r : Rec) (s : St) : St × Int := if encE r = 0 then (if (counted s (appendOn n (u8s (enc r)))).2 = 0 then counted (counted s (appendOn n (u8s (enc r)))).1 (syncOn n) else counted s (appendOn n (u8s (enc r)))) else (s, encE r)
theorem apd_bad {n : Nm} {r : Rec} {s : St} (h : encE r ≠ 0) : apd n r s = (s, ((encE r : Nat) : Int)) := by unfold apd; rw [if_neg h]
theorem apd_one {n : Nm} {r : Rec} {s : St} (h : encE r = 0) (h2 : (counted s (appendOn n (u8s (enc r)))).2 ≠ 0) : apd n r s = counted s (appendOn n (u8s (enc r))) := by unfold apd; rw [if_pos h, if_neg h2]
theorem apd_two {n : Nm} {r : Rec} {s : St} (h : encE r = 0) (h2 : (counted s (appendOn n (u8s (enc r)))).2 = 0) : apd n r s = counted (counted s (appendOn n (u8s (enc r)))).1 (syncOn n) := by unfold apd; rw [if_pos h, if_pos h2]
theorem IsD.wide {w : World} {p : Nat} {F F' : Nat → Prop} {s : St} (h : IsD w p F s) (hF : ∀ k, F k → F' k) (hl : ∀ k, F' k → k < w.heap.size) : IsD w p F' s := by
  obtain ⟨bm, c, L, hd⟩ := h
  exact ⟨bm, c, L, hd.wide hF hl⟩
theorem IsL.cells {w : World} {q p : Nat} {n : Tx} {k : Nat} (h : IsL w q p n k) : w.cell? ⟨q, 0, none⟩ = some (.pointer (some ⟨p, 0, none⟩)) ∧ w.cell? ⟨q, 1, none⟩ = some (.string n) ∧ w.cell? ⟨q, 2, none⟩ = some (.int .i64 (k : Nat)) ∧ w.frozen? ⟨q, 2, none⟩ = false := ⟨cell_of_blk h.blk 0, cell_of_blk h.blk 1, cell_of_blk h.blk 2, frozen_of_blk h.blk 2⟩
theorem IsL.grown {w : World} {q p : Nat} {n : Tx} {k : Nat} (h : IsL w q p n k) (m : Nat) : IsL (w.setCell ⟨q, 2, none⟩ (.int .i64 ((k : Int) + m))) q p n (k + m) := ⟨by rw [blk_set h.blk]; rfl⟩
theorem encE_zero {r : Rec} (h : encE r = 0) : may r = true ∧ (body r).length ≤ 1048576 ∧ encB r = enc r := by
  unfold encE at h
  by_cases h1 : may r = true
  · rw [if_pos h1] at h
    by_cases h2 : (body r).length ≤ 1048576
    · exact ⟨h1, h2, (encE_ok h1 h2).2⟩
    · rw [if_neg h2] at h; cases h
  · rw [if_neg h1] at h; cases h
def LogAppTo (w : World) (q p : Nat) (F : Nat → Prop) (s : St) (n : Tx) (k : Nat) (r : Rec) (e : Ending) (w' : World) : Prop :=
  e = .returned (.int .i64 (apd n.data.toList r s).2) ∧ Hid (IsD w' p (grow F w w') (apd n.data.toList r s).1) ∧ Hid (IsL w' q p n (if (apd n.data.toList r s).2 = 0 then k + (enc r).length else k)) ∧ Hid (Keeps (fun x => F x ∨ x = q) w w')

set_option maxRecDepth 10000 in
set_option maxHeartbeats 1000000 in
theorem LogAppend_any (w : World) (q p : Nat) (F : Nat → Prop) (s : St) (n : Tx) (k : Nat) (v : CV) (r : Rec) (h : IsD w p F s) (hL : IsL w q p n k) (hq : ¬ F q) (hn : n.size ≤ maxLen) (hk : (k : Int) ≤ 140737488355328) (hc : IsC w v r) (ht : TabIn w)
    (hfit : encE r = 0 → ∀ f, find n.data.toList (tick s).fs = some f → f.bs.length + (enc r).length ≤ 140737488355328) :
    Calls Tryz.prog 57 #[.pointer (some ⟨q, 0, none⟩), .agg #[.int .i64 v.k, .int .u64 (v.i : Nat), .slice v.op v.np v.cp, .slice v.ok v.nk v.ck]] w (LogAppTo w q p F s n k r) := by
  have HD : Hid (IsD w p F s) := h
  have HL : Hid (IsL w q p n k) := hL
  have HN : Hid (n.size ≤ maxLen) := hn
  have HFT : Hid (encE r = 0 → ∀ f, find n.data.toList (tick s).fs = some f → f.bs.length + (enc r).length ≤ 140737488355328) := hfit
  have HC : Hid (IsC w v r) := hc
  have hk0 : Keeps no w (w.alloc (.cells #[.int .i64 v.k, .int .u64 (v.i : Nat), .slice v.op v.np v.cp, .slice v.ok v.nk v.ck] 47)) := (Keeps.refl _ _).alloc _
  obtain ⟨x0, x1, x2, x3⟩ := cells4W (blk_new w (.cells #[.int .i64 v.k, .int .u64 (v.i : Nat), .slice v.op v.np v.cp, .slice v.ok v.nk v.ck] 47))
  have HK0 : Hid (Keeps no w (w.alloc (.cells #[.int .i64 v.k, .int .u64 (v.i : Nat), .slice v.op v.np v.cp, .slice v.ok v.nk v.ck] 47))) := hk0
  clear h hL hn hfit hc hk0
  go_enter Tryz.func57, Tryz.ntmps57
  go_wp2_with fail
  refine (Build_any _ v.k v.i v.op v.np v.cp v.ok v.nk v.ck r (HC.out.keepsN HK0.out) (ht.keepsN HK0.out)).mono ?_
  rintro e w1 ⟨o, m, c, rfl, hm, hown, hnew, hk1⟩
  have HK1 : Hid (Keeps no w w1) := HK0.out.trans hk1
  have HNW : Hid (New w o) := hnew.of_le HK0.out.size
  have HO : Hid (Owns w1 o c (encB r)) := hown
  clear x0 x1 x2 x3 hown hnew hk1 HK0 HC
  by_cases hE : encE r = 0
  · obtain ⟨hmay, hlen, hbb⟩ := encE_zero hE
    have HE : Hid (encE r = 0 ∧ may r = true ∧ (body r).length ≤ 1048576) := ⟨hE, hmay, hlen⟩
    rw [hE]
    rw [hbb] at hm HO
    have hmb : (m : Int) ≤ 1048584 := by have := hm.out; rw [enc_length] at this; omega
    clear hE hmay hlen hbb
    have HB : Hid (Sl BU w1 o c (u8s (enc r))) := (own_u8 (enc_byt r) HO.out).sl
    have HML : Hid (m = (u8s (enc r)).length) := by show _ = _; rw [u8s_length]; exact hm.out
    have HL1 : Hid (IsL w1 q p n k) := HL.out.keeps HK1.out (fun h => h)
    have HCE : Hid (∀ w', Keeps F w1 w' → w'.cell? ⟨q, 0, none⟩ = some (.pointer (some ⟨p, 0, none⟩)) ∧ w'.cell? ⟨q, 1, none⟩ = some (.string n)) := fun w' hk' => ⟨(HL1.out.keeps hk' hq).cells.1, (HL1.out.keeps hk' hq).cells.2.1⟩
    have HOF : Hid (∀ j, inO o j → ¬ F j) := fun j hj hf => by have := HNW.out j hj; have := HD.out.lt j hf; omega
    have HFU : Hid (∀ f, find n.data.toList (tick s).fs = some f → f.bs.length + (u8s (enc r)).length ≤ 140737488355328) := by rw [u8s_length]; exact HFT.out HE.out.1
    go_wp2_with fail
    go_region_held3 (fun w' => w'.cell? ⟨q, 0, none⟩ = some (.pointer (some ⟨p, 0, none⟩)) ∧ w'.cell? ⟨q, 1, none⟩ = some (.string n)) (first | exact HCE.out _ HK2.out | exact HCE.out _ ((Keeps.refl F w1).drew) | exact HCE.out _ (Keeps.refl F w1)) ((go_at_call 9; refine (append_any w1.drew p F s n o m c (u8s (enc r)) ((HD.out.keepsN HK1.out).keepsN (Keeps.refl no w1).drew) HN.out HML.out (HB.out.keepsN (Keeps.refl no w1).drew) HOF.out (by have := HML.out; omega) HFU.out).mono ?_; rintro e w2 ⟨rfl, hD2, hk2⟩; have HK2 : Hid (Keeps F w1 w2) := (Keeps.refl F w1).drew.trans hk2; have HD2 : Hid (IsD w2 p (grow F w1 w2) (counted s (appendOn n.data.toList (u8s (enc r)))).1) := hD2; clear hD2 hk2))
    rename _ ∧ _ => hh
    clear hh
    have HL2 : Hid (IsL w2 q p n k) := HL1.out.keeps HK2.out hq
    have HKW2 : Hid (Keeps (fun x => F x ∨ x = q) w w2) := (HK1.out.of_no).trans (HK2.out.mono (fun i h => .inl h))
    have HQ : Hid (q < w1.heap.size) := lt_of_block HL1.out.blk
    have HS1 : Hid (w.heap.size ≤ w1.heap.size ∧ w1.heap.size ≤ w2.heap.size) := ⟨HK1.out.size, HK2.out.size⟩
    have HWD : Hid (∀ w', w2.heap.size ≤ w'.heap.size → ∀ (t : St), IsD w' p (grow F w1 w2) t → IsD w' p (grow F w w') t) := by
      intro w' hs t hd
      refine hd.wide (fun j hj => ?_) (fun j hj => ?_)
      · rcases hj with a | a
        · exact .inl a
        · exact .inr (by have := HS1.out; omega)
      · rcases hj with a | a
        · have := HD.out.lt j a; have := HS1.out; omega
        · exact a.2
    obtain ⟨G, hG⟩ : ∃ G, G = (counted s (appendOn n.data.toList (u8s (enc r)))).2 := ⟨_, rfl⟩
    have HG : Hid (G = (counted s (appendOn n.data.toList (u8s (enc r)))).2) := hG
    rw [← hG]
    clear hG
    by_cases hG0 : G = 0
    · subst hG0
      have HA : Hid (apd n.data.toList r s = counted (counted s (appendOn n.data.toList (u8s (enc r)))).1 (syncOn n.data.toList)) := apd_two HE.out.1 HG.out.symm
      have hq2 : ¬ grow F w1 w2 q := fun hg => by rcases hg with a | a; exact hq a; have := HQ.out; omega
      have HCE2 : Hid (∀ w', Keeps (grow F w1 w2) w2 w' → w'.cell? ⟨q, 0, none⟩ = some (.pointer (some ⟨p, 0, none⟩)) ∧ w'.cell? ⟨q, 1, none⟩ = some (.string n)) := fun w' hk' => ⟨(HL2.out.keeps hk' hq2).cells.1, (HL2.out.keeps hk' hq2).cells.2.1⟩
      generalize counted s (appendOn n.data.toList (u8s (enc r))) = S1 at HA HD2 HG
      go_wp2_with fail
      go_region_held3 (fun w' => w'.cell? ⟨q, 0, none⟩ = some (.pointer (some ⟨p, 0, none⟩)) ∧ w'.cell? ⟨q, 1, none⟩ = some (.string n)) (first | exact HCE2.out _ HK3.out | exact HCE2.out _ ((Keeps.refl (grow F w1 w2) w2).drew) | exact HCE2.out _ (Keeps.refl (grow F w1 w2) w2)) ((go_at_call 29; refine (sync_any w2.drew p (grow F w1 w2) S1.1 n (HD2.out.keepsN (Keeps.refl no w2).drew) HN.out).mono ?_; rintro e w3 ⟨rfl, hD3, hk3⟩; have HK3 : Hid (Keeps (grow F w1 w2) w2 w3) := (Keeps.refl (grow F w1 w2) w2).drew.trans hk3; have HD3 : Hid (IsD w3 p (grow F w1 w2) (counted S1.1 (syncOn n.data.toList)).1) := hD3; clear hD3 hk3))
      rename _ ∧ _ => hh
      clear hh
      have HL3 : Hid (IsL w3 q p n k) := HL2.out.keeps HK3.out hq2
      have HKW3 : Hid (Keeps (fun x => F x ∨ x = q) w w3) := HKW2.out.then HK3.out (fun j hj => by
        rcases hj with a | a
        · exact .inl (.inl a)
        · exact .inr (by have := HS1.out; omega))
      rw [← HA.out] at HD3
      have HA2 : Hid ((counted S1.1 (syncOn n.data.toList)).2 = (apd n.data.toList r s).2) := by show _ = _; rw [HA.out]
      rw [HA2.out]
      have HS3 : Hid (w2.heap.size ≤ w3.heap.size) := HK3.out.size
      obtain ⟨E, hE⟩ : ∃ E, E = (apd n.data.toList r s).2 := ⟨_, rfl⟩
      have HEE : Hid (E = (apd n.data.toList r s).2) := hE
      rw [← hE]
      clear hE HA2 HA
      by_cases hE0 : E = 0
      · subst hE0
        obtain ⟨_, _, c2, c3⟩ := HL3.out.cells
        have hkm : (k : Int) + m ≤ 140737489403912 := by omega
        go_wp2_with fail
        go_ret
        refine ⟨by rw [← HEE.out]; rfl, HWD.out _ (by rw [World.size_setCell]; exact HS3.out) _ (HD3.out.keeps ((Keeps.refl (fun x => x = q) w3).setCell (p := ⟨q, 2, none⟩) (.inl rfl) _) (fun j hj e => hq2 (e ▸ hj))), ?_, HKW3.out.setCell (p := ⟨q, 2, none⟩) (.inl (.inr rfl)) _⟩
        rw [← HEE.out, if_pos rfl, ← hm.out]
        exact HL3.out.grown m
      · have hE1 : (E == 0) = false := by simpa using hE0
        go_wp2_with fail
        go_ret
        refine ⟨by rw [← HEE.out]; rfl, HWD.out _ HS3.out _ HD3.out, ?_, HKW3.out⟩
        rw [← HEE.out, if_neg hE0]
        exact HL3.out
    · have hG1 : (G == 0) = false := by simpa using hG0
      have HA : Hid (apd n.data.toList r s = counted s (appendOn n.data.toList (u8s (enc r)))) := apd_one HE.out.1 (by rw [← HG.out]; exact hG0)
      go_wp2_with fail
      go_ret
      refine ⟨by rw [HA.out, ← HG.out]; rfl, by rw [HA.out]; exact HWD.out _ (Nat.le_refl _) _ HD2.out, ?_, HKW2.out⟩
      rw [HA.out, ← HG.out, if_neg hG0]
      exact HL2.out
  · have HA : Hid (apd n.data.toList r s = (s, ((encE r : Nat) : Int))) := apd_bad hE
    obtain ⟨E, hE2⟩ : ∃ E, E = encE r := ⟨_, rfl⟩
    have HEE : Hid (E = encE r) := hE2
    rw [← hE2] at hE ⊢
    have hE1 : ((E : Int) == 0) = false := by simp; omega
    have hE3 : ¬ (E : Int) = 0 := by omega
    clear hE2
    go_wp2_with fail
    go_ret
    refine ⟨by rw [HA.out, ← HEE.out]; rfl, ?_, ?_, HK1.out.of_no⟩
    · rw [HA.out]
      exact (HD.out.keepsN HK1.out).wide (fun j hj => .inl hj) (fun j hj => by
        rcases hj with a | a
        · have := HD.out.lt j a; have := HK1.out.size; omega
        · exact a.2)
    · rw [HA.out, ← HEE.out, if_neg (by simpa using hE3)]
      exact HL.out.keeps HK1.out (fun h => h)
end Go.Proofs.YtdemoghlibnooaaGreatDoor
/- The laws' own functions: sameTexts, sameRecord. -/
namespace Go.Proofs.YtdemoghlibnooaaGreatDoor
open Go.RowKit Pk
set_option linter.unusedVariables false
set_option linter.unusedSimpArgs false

theorem neqP (x1 x2 y1 y2 : Tx) (w : World) : (binOp .neq 85 (.agg #[.string x1, .string x2]) (.agg #[.string y1, .string y2])).run Tryz.prog w = .ok (.bool (!(decide (x1 = y1) && decide (x2 = y2)))) w := by
  have u9 := Tryz.underlying9
  have a9 := Tryz.isAgg9
  have z9 := Tryz.sizeOf9
  have hS : Tryz.prog.underlying 85 = some (.struct (Tryz.prog.fieldsOf 85)) := by kernel_rfl
  have hp : Tryz.prog.stoodInHeld 85 = false := by kernel_rfl
  rw [run_neq_struct, show (10000 : Nat) = 9999 + 1 from rfl, run_equalIn_agg w 9999 85 _ _ hS hp]
  simp only [Program.fieldsOf, Tryz.underlying85]
  go_simp
  by_cases h1 : x1 = y1 <;> by_cases h2 : x2 = y2 <;> simp [h1, h2, toList_inj]
set_option maxRecDepth 10000 in
theorem sameTexts_anyW (w : World) (oa : Option Addr) (na ca : Nat) (ob : Option Addr) (nb cb : Nat) (sa sb : List Tx) (hna : na = sa.length) (hnb : nb = sb.length) (hla : sa.length ≤ 8796093022000) (hlb : sb.length ≤ 8796093022000) (ha : Sl TE w oa ca sa) (hb : Sl TE w ob cb sb) :
    Calls Tryz.prog 20 #[.slice oa na ca, .slice ob nb cb] w fun e w' => (∃ B : Bool, e = .returned (.bool B) ∧ Hid (B = true ↔ sa = sb)) ∧ Keeps no w w' := by
  have HA : Hid (na = sa.length) := hna
  have HB : Hid (nb = sb.length) := hnb
  have hA : (na : Int) ≤ 8796093022000 := by omega
  have hB : (nb : Int) ≤ 8796093022000 := by omega
  clear hna hnb hla hlb
  by_cases hne : na = nb
  · subst hne
    go_enter Tryz.func20, Tryz.ntmps20
    go_wp2_with fail
    go_loopw [5] (fun i wr => ∃ k m : Nat, k ≤ na ∧ i = .int .i64 k ∧ wr = w.drewN m ∧ Hid (sa.take k = sb.take k)) (fun i _ => na - (intOf i).toNat)
    case atStart => exact ⟨0, 0, by omega, rfl, rfl, show sa.take 0 = sb.take 0 by simp⟩
    case round =>
      obtain ⟨k, m, hk, rfl, rfl, HT⟩ := hrel
      by_cases h2 : k < na
      · have hka : k < sa.length := by have := HA.out; omega
        have hkb : k < sb.length := by have := HB.out; omega
        obtain ⟨b1, off1, rfl, d1⟩ := ha.at hka
        obtain ⟨b2, off2, rfl, d2⟩ := hb.at hkb
        obtain ⟨x, hx⟩ : ∃ x, x = sa.getD k e0 := ⟨_, rfl⟩
        obtain ⟨y, hy⟩ : ∃ y, y = sb.getD k e0 := ⟨_, rfl⟩
        rw [← hx] at d1
        rw [← hy] at d2
        have HX : Hid (x = sa.getD k e0) := hx
        have HY : Hid (y = sb.getD k e0) := hy
        clear hx hy hka hkb
        by_cases hxy : x = y
        · have hxy' : (x.toList == y.toList) = true := by rw [tx_eq]; simpa using hxy
          clear hxy
          go_wp2
          go_quiet (fail)
          go_wp2
          go_roundw
          case rel =>
            refine ⟨k + 1, _, by omega, by go_num, rfl, ?_⟩
            rw [tx_eq, decide_eq_true_eq] at hxy'
            have := HT.out
            show sa.take (k + 1) = sb.take (k + 1)
            rw [take_succ_getD sa k e0 (by have := HA.out; omega), take_succ_getD sb k e0 (by have := HB.out; omega), this, ← HX.out, ← HY.out, hxy']
          case measure => simp [intOf]; omega
        · have hxy' : (x.toList == y.toList) = false := by rw [tx_eq]; simpa using hxy
          go_wp2
          go_quiet (fail)
          go_wp2
          go_ret
          refine ⟨⟨false, rfl, ⟨fun h => (by cases h), fun e => ?_⟩⟩, ((Keeps.refl _ _).drewN _).drewN _⟩
          exact absurd (by rw [HX.out, HY.out, e]) hxy
      · go_wp2
        go_ret
        refine ⟨⟨true, rfl, ⟨fun _ => ?_, fun _ => rfl⟩⟩, (Keeps.refl _ _).drewN _⟩
        have := HT.out
        rwa [List.take_of_length_le (by have := HA.out; omega), List.take_of_length_le (by have := HB.out; omega)] at this
  · have hne' : ¬ ((na : Nat) : Int) = (nb : Nat) := by omega
    go_enter Tryz.func20, Tryz.ntmps20
    go_wp2
    go_ret
    refine ⟨⟨false, rfl, ⟨fun h => (by cases h), fun e => ?_⟩⟩, Keeps.refl _ _⟩
    exact absurd (by rw [HA.out, HB.out, e]) hne

def SameTo (w : World) (r r' : Rec) (e : Ending) (w' : World) : Prop := (∃ B : Bool, e = .returned (.bool B) ∧ Hid (B = true ↔ r = r')) ∧ Keeps no w w'
end Go.Proofs.YtdemoghlibnooaaGreatDoor
/- The laws' own functions: own (a record with lists of its own), commit. -/
namespace Go.Proofs.YtdemoghlibnooaaGreatDoor
open Go.RowKit Pk
set_option linter.unusedVariables false
set_option linter.unusedSimpArgs false

/-- own's two records -/
structure OwS (w : World) (A B : Nat) (a0 a1 a2 a3 : Value) (W : World) : Prop where
  kp : Keeps no w W
  a : W.heap[A]? = some (.cells #[a0, a1, a2, a3] 47 (0, 0))
  b : W.heap[B]? = some (.cells #[.int .i64 0, .int .u64 0, .slice none 0 0, .slice none 0 0] 47 (0, 0))
  hA : w.heap.size ≤ A
  hB : w.heap.size ≤ B
  ne : A ≠ B
theorem OwS.app {w W W' : World} {A B g : Nat} {a0 a1 a2 a3 : Value} {o' : Option Addr} (h : OwS w A B a0 a1 a2 a3 W) (hg : A < g ∧ B < g) (hap : Ap W (some ⟨g, 0, none⟩) o' W') (hl : w.heap.size ≤ g) : OwS w A B a0 a1 a2 a3 W' ∧ New w o' := by
  have hk : Keeps (inO (some ⟨g, 0, none⟩)) W W' := by
    rcases hap with ⟨_, x⟩ | ⟨_, x⟩
    · exact x
    · exact x.of_no
  have nA : ∀ x, x < g → ¬ inO (some ⟨g, 0, none⟩) x := fun x hx ⟨y, ey, e⟩ => by cases ey; simp only at e; omega
  exact ⟨⟨(hap.new (new_fresh w g hl 0) h.kp).2, hk.at h.a (nA A hg.1), hk.at h.b (nA B hg.2), h.hA, h.hB, h.ne⟩, (hap.new (new_fresh w g hl 0) h.kp).1⟩
theorem OwS.alloc {w W : World} {A B : Nat} {a0 a1 a2 a3 : Value} (h : OwS w A B a0 a1 a2 a3 W) (o : Obj) : OwS w A B a0 a1 a2 a3 (W.alloc o) := ⟨h.kp.alloc _, blk_alloc h.a _, blk_alloc h.b _, h.hA, h.hB, h.ne⟩
theorem OwS.set2 {w W : World} {A B : Nat} {a0 a1 a2 a3 : Value} (h : OwS w A B a0 a1 a2 a3 W) (u : Value) : OwS w A B a0 a1 u a3 (W.setCell ⟨A, 2, none⟩ u) :=
  ⟨h.kp.setCell (p := ⟨A, 2, none⟩) (.inr h.hA) u, by rw [blk_set h.a]; rfl, blk_set_ne h.b (p := ⟨A, 2, none⟩) (fun e => h.ne e.symm) u, h.hA, h.hB, h.ne⟩
theorem OwS.set3 {w W : World} {A B : Nat} {a0 a1 a2 a3 : Value} (h : OwS w A B a0 a1 a2 a3 W) (u : Value) : OwS w A B a0 a1 a2 u (W.setCell ⟨A, 3, none⟩ u) :=
  ⟨h.kp.setCell (p := ⟨A, 3, none⟩) (.inr h.hA) u, by rw [blk_set h.a]; rfl, blk_set_ne h.b (p := ⟨A, 3, none⟩) (fun e => h.ne e.symm) u, h.hA, h.hB, h.ne⟩
theorem Own.apart_ap {α : Type} {E : El α} {w w' : World} {o o' : Option Addr} {c g : Nat} {xs : List α} (h : Own E w o c xs) (hap : Ap w (some ⟨g, 0, none⟩) o' w') (hl : ∀ x, inO o x → x < g) : Own E w' o c xs := by
  rcases hap with ⟨_, hk⟩ | ⟨_, hk⟩
  · exact h.keeps hk (fun x hx ⟨y, ey, e⟩ => by cases ey; have := hl x hx; simp only at e; omega)
  · exact h.keepsN hk
def OwnRTo (w : World) (k : Int) (i np nk : Nat) (r : Rec) (e : Ending) (w' : World) : Prop :=
  ∃ (op : Option Addr) (cp : Nat) (ok : Option Addr) (ck : Nat), e = .returned (.agg #[.int .i64 k, .int .u64 (i : Nat), .slice op np cp, .slice ok nk ck]) ∧ Hid (Got w w' ⟨k, i, op, np, cp, ok, nk, ck⟩ r) ∧ Keeps no w w'

end Go.Proofs.YtdemoghlibnooaaGreatDoor
/- The laws' own functions: sameRecords; the log's Size and Name; the record of a commit. -/
namespace Go.Proofs.YtdemoghlibnooaaGreatDoor
open Go.RowKit Pk
set_option linter.unusedVariables false
set_option linter.unusedSimpArgs false

theorem Sl.atCE {w : World} {a : Option Addr} {c : Nat} {xs : List CV} (h : Sl CE w a c xs) {j : Nat} (hj : j < xs.length) : ∃ b off, a = some ⟨b, off, none⟩ ∧ w.cell? ⟨b, off + j * 4, none⟩ = some (.int .i64 (xs.getD j cv0).k) ∧ w.cell? ⟨b, off + j * 4 + 1, none⟩ = some (.int .u64 ((xs.getD j cv0).i : Nat)) ∧ w.cell? ⟨b, off + j * 4 + 2, none⟩ = some (.slice (xs.getD j cv0).op (xs.getD j cv0).np (xs.getD j cv0).cp) ∧ w.cell? ⟨b, off + j * 4 + 3, none⟩ = some (.slice (xs.getD j cv0).ok (xs.getD j cv0).nk (xs.getD j cv0).ck) := by
  rcases h.row with e | ⟨b, off, rfl, hc⟩
  · subst e; simp at hj
  · refine ⟨b, off, rfl, hc (j * 4) _ ?_, ?_, ?_, ?_⟩
    · have := cells_at okC cv0 xs j 0 hj (by decide)
      simpa [CE] using this
    all_goals rw [Nat.add_assoc]
    · refine hc (j * 4 + 1) _ ?_
      have := cells_at okC cv0 xs j 1 hj (by decide)
      simpa [CE] using this
    · refine hc (j * 4 + 2) _ ?_
      have := cells_at okC cv0 xs j 2 hj (by decide)
      simpa [CE] using this
    · refine hc (j * 4 + 3) _ ?_
      have := cells_at okC cv0 xs j 3 hj (by decide)
      simpa [CE] using this
/-- a list of records, to be read -/
structure RsIn (w : World) (o : Option Addr) (c : Nat) (vs : List CV) (rs : List Rec) : Prop where
  sl : Sl CE w o c vs
  len : vs.length = rs.length
  each : ∀ j, j < rs.length → IsC w (vs.getD j cv0) (rs.getD j c0)
theorem RsIn.keepsN {w w' : World} {o : Option Addr} {c : Nat} {vs : List CV} {rs : List Rec} (h : RsIn w o c vs rs) (hk : Keeps no w w') : RsIn w' o c vs rs := ⟨h.sl.keepsN hk, h.len, fun j hj => (h.each j hj).keepsN hk⟩
theorem Scn.rsIn {w w' : World} {o : Option Addr} {c : Nat} {vs : List CV} {rs : List Rec} (h : Scn w w' o c vs rs) : RsIn w' o c vs rs := ⟨h.own.sl, h.len, fun j hj => (h.each j hj).isC⟩
def SamesTo (w : World) (rs rs' : List Rec) (e : Ending) (w' : World) : Prop := (∃ B : Bool, e = .returned (.bool B) ∧ Hid (B = true ↔ rs = rs')) ∧ Keeps no w w'

theorem LogSize_any (w : World) (q p : Nat) (n : Tx) (k : Nat) (h : IsL w q p n k) : Calls Tryz.prog 21 #[.pointer (some ⟨q, 0, none⟩)] w fun e w' => e = .returned (.int .i64 (k : Nat)) ∧ w' = w := by
  obtain ⟨c0, c1, c2, _⟩ := h.cells
  go_enter Tryz.func21, Tryz.ntmps21
  go_wp2_with fail
  go_ret
  exact ⟨rfl, rfl⟩
theorem LogName_any (w : World) (q p : Nat) (n : Tx) (k : Nat) (h : IsL w q p n k) : Calls Tryz.prog 38 #[.pointer (some ⟨q, 0, none⟩)] w fun e w' => e = .returned (.string n) ∧ w' = w := by
  obtain ⟨c0, c1, c2, _⟩ := h.cells
  go_enter Tryz.func38, Tryz.ntmps38
  go_wp2_with fail
  go_ret
  exact ⟨rfl, rfl⟩
end Go.Proofs.YtdemoghlibnooaaGreatDoor
/- The record of a commit. -/
namespace Go.Proofs.YtdemoghlibnooaaGreatDoor
open Go.RowKit Pk
set_option linter.unusedVariables false
set_option linter.unusedSimpArgs false

def cmR (q : Nat) : Rec := ⟨2, q * 65536, [], []⟩
theorem cmR_may {q : Nat} (h : 1 ≤ q) : may (cmR q) = true := by
  unfold may cmR
  rw [if_neg (by show ¬ (2 : Int) = 1; decide), if_pos rfl, decide_eq_true (by show 65536 ≤ q * 65536; omega)]
  rfl
theorem cmR_isC (w : World) {q : Nat} (h : q ≤ 1000000) : IsC w ⟨2, q * 65536, none, 0, 0, none, 0, 0⟩ (cmR q) := ⟨rfl, rfl, rfl, rfl, own_nil_sl _, own_nil_sl _, ⟨by simp [cmR], fun s hs => (by cases hs), by simp [cmR], fun s hs => (by cases hs), by simp [cmR], by simp [cmR], by simp only [cmR]; omega⟩⟩
theorem cmR_body (q : Nat) : (body (cmR q)).length = 9 := by
  unfold body layF cmR
  simp [num_length]
end Go.Proofs.YtdemoghlibnooaaGreatDoor
