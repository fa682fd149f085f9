import Derived.Test.YtdemoghlibnooaaGreatDoorG2
import Derived.Lib.QuietBelow
import Derived.BigQuiet
/- Logs on disks, in pure lists: rows of records; what Append and Open come to. -/
namespace Go.Proofs.YtdemoghlibnooaaGreatDoor
open Go.RowKit Go.Sort Orl Pk Dk
set_option linter.unusedVariables false
set_option linter.unusedSimpArgs false

/-! ### rows of records -/
def rowb (l : List Rec) : List Nat := l.flatMap enc
theorem rowb_nil : rowb [] = [] := rfl
theorem rowb_snoc (l : List Rec) (r : Rec) : rowb (l ++ [r]) = rowb l ++ enc r := by simp [rowb]
theorem rowb_app (a b : List Rec) : rowb (a ++ b) = rowb a ++ rowb b := by simp [rowb]
theorem rowb_byt (l : List Rec) : ∀ c ∈ rowb l, c < 256 := by
  intro c hc
  unfold rowb at hc
  obtain ⟨r, _, hr⟩ := List.mem_flatMap.1 hc
  exact enc_byt r c hr
theorem rowb_split (l : List Rec) (q : Nat) (hq : q < l.length) : rowb l = rowb (l.take q) ++ (enc (l.getD q c0) ++ rowb (l.drop (q + 1))) := by
  have e : l = l.take q ++ (l.getD q c0 :: l.drop (q + 1)) := by
    have h1 := List.take_append_drop q l
    have h2 : l.drop q = l.getD q c0 :: l.drop (q + 1) := by rw [List.drop_eq_getElem_cons hq]; simp [List.getD_eq_getElem?_getD, hq]
    rw [h2] at h1; exact h1.symm
  conv => lhs; rw [e]
  simp [rowb]
theorem rowb_take_succ (l : List Rec) (q : Nat) (hq : q < l.length) : rowb (l.take (q + 1)) = rowb (l.take q) ++ enc (l.getD q c0) := by
  rw [take_succ_getD l q c0 hq, rowb_snoc]
/-- a record that Build takes -/
structure Gd (r : Rec) : Prop where
  may : may r = true
  id : r.id < 18446744073709551616
  len : (body r).length ≤ 1048576
theorem Gd.encE {r : Rec} (h : Gd r) : encE r = 0 := (encE_ok h.may h.len).1
theorem Gd.encB {r : Rec} (h : Gd r) : encB r = enc r := (encE_ok h.may h.len).2
theorem gd_of {r : Rec} (h : encE r = 0) (hi : r.id < 18446744073709551616) : Gd r := ⟨(encE_zero h).1, hi, (encE_zero h).2.1⟩
theorem Gd.enc_len {r : Rec} (h : Gd r) : (enc r).length ≤ 1048584 := by have := h.len; rw [enc_length]; omega
theorem enc_pos (r : Rec) : 8 ≤ (enc r).length := by rw [enc_length]; omega
def Gds (l : List Rec) : Prop := ∀ r ∈ l, Gd r
theorem gds_nil : Gds [] := fun r hr => by cases hr
theorem Gds.snoc {l : List Rec} {r : Rec} (h : Gds l) (hr : Gd r) : Gds (l ++ [r]) := fun x hx => by
  rcases List.mem_append.1 hx with hx | hx
  · exact h x hx
  · rw [List.mem_singleton.1 hx]; exact hr
theorem rowb_len {l : List Rec} (h : Gds l) : (rowb l).length ≤ l.length * 1048584 := by
  induction l with
  | nil => simp [rowb]
  | cons r l ih =>
    have h1 := ih (fun x hx => h x (List.mem_cons_of_mem _ hx))
    have h2 := (h r List.mem_cons_self).enc_len
    have : (rowb (r :: l)).length = (enc r).length + (rowb l).length := by simp [rowb]
    rw [this, List.length_cons, Nat.add_mul]; omega
theorem run_row {l : List Rec} (h : Gds l) (t : List Nat) : ∀ q, q ≤ l.length → Run (rowb l ++ t) (l.take q) (rowb (l.take q)).length
  | 0, _ => by simp [rowb]; exact Run.nil
  | q + 1, hq => by
    have ih := run_row h t q (by omega)
    have hg := h (l.getD q c0) (getD_mem_lt c0 hq)
    have hp : parse ((rowb l ++ t).drop (rowb (l.take q)).length) = (l.getD q c0, (enc (l.getD q c0)).length, 0) := by
      rw [rowb_split l q hq, List.append_assoc, List.drop_left, List.append_assoc]
      exact parse_enc _ hg.may hg.id hg.len (sum_body _) _
    have := Run.snoc ih hp
    rw [take_succ_getD l q c0 hq, rowb_snoc, List.length_append]
    exact this
/-- whole records, and then none -/
theorem sc_row {l : List Rec} (h : Gds l) {t : List Nat} (ht : (parse t).2.2 ≠ 0) : Sc (rowb l ++ t) l (rowb l).length := by
  have := run_row h t l.length (Nat.le_refl _)
  rw [List.take_length] at this
  refine ⟨this, ?_⟩
  rw [List.drop_left]
  exact ht
theorem parse_nil : (parse []).2.2 ≠ 0 := by rw [parse_short (by simp)]; decide
theorem torn_ne {r : Rec} (h : Gd r) {k : Nat} (hk : k < (enc r).length) : (parse ((enc r).take k)).2.2 ≠ 0 := by
  rw [parse_cut r h.len k hk]; decide
theorem sc_nil {l : List Rec} (h : Gds l) : Sc (rowb l) l (rowb l).length := by
  have := sc_row h parse_nil
  rwa [List.append_nil] at this

/-! ### a disk whose power is on, and which is not armed -/
structure On (s : St) : Prop where
  off : s.off = false
  calls : s.calls = -1
theorem On.tick {s : St} (h : On s) : tick s = s := by
  unfold Dk.tick
  rw [h.calls, if_neg (by decide), if_neg (by decide)]
theorem On.counted {s : St} (h : On s) (g : St → St × Int) : counted s g = g s := by
  unfold Dk.counted
  rw [h.tick, h.off]
  rfl
theorem On.readB {s : St} (h : On s) (n : Nm) : Dk.readB n s = match find n s.fs with | none => [] | some f => f.bs := by
  unfold Dk.readB
  rw [h.off]
  rfl
theorem On.readE {s : St} (h : On s) (n : Nm) : Dk.readE n s = match find n s.fs with | none => 61 | some _ => 0 := by
  unfold Dk.readE
  rw [h.off]
  rfl
theorem fput_put {β : Type} {n : Nm} {v u : β} {l : List (Nm × β)} (h : Inc l) : put n v (put n u l) = put n v l := by
  refine inc_ext (inc_put (inc_put h)) (inc_put h) fun m => ?_
  by_cases e : m = n
  · subst e; rw [find_put_same, find_put_same]
  · rw [find_put_other e, find_put_other e, find_put_other e]
/-- a file's bytes, none where there is no file -/
def bsOf (n : Nm) (s : St) : List UInt8 := match find n s.fs with | none => [] | some f => f.bs
def syOf (n : Nm) (s : St) : Nat := match find n s.fs with | none => 0 | some f => f.sy
theorem On.read {s : St} (h : On s) (n : Nm) : Dk.readB n s = bsOf n s := h.readB n
/-- one file laid -/
def lay1 (n : Nm) (f : Fl) (s : St) : St := { s with fs := put n f s.fs }
theorem On.lay1 {s : St} (h : On s) (n : Nm) (f : Fl) : On (lay1 n f s) := ⟨h.off, h.calls⟩
theorem find_lay1 (n : Nm) (f : Fl) (s : St) : find n (lay1 n f s).fs = some f := find_put_same _
theorem find_lay1_ne {n m : Nm} (hne : m ≠ n) (f : Fl) (s : St) : find m (lay1 n f s).fs = find m s.fs := find_put_other hne _
theorem bsOf_lay1 (n : Nm) (f : Fl) (s : St) : bsOf n (lay1 n f s) = f.bs := by unfold bsOf; rw [find_lay1]
theorem bsOf_lay1_ne {n m : Nm} (hne : m ≠ n) (f : Fl) (s : St) : bsOf m (lay1 n f s) = bsOf m s := by unfold bsOf; rw [find_lay1_ne hne]
theorem lay1_lay1 {n : Nm} {f g : Fl} {s : St} (h : Inc s.fs) : lay1 n f (lay1 n g s) = lay1 n f s := by
  unfold lay1
  simp only [fput_put h]
/-- room for a file -/
def Room (n : Nm) (s : St) : Prop := find n s.fs = none → s.fs.length < 16
theorem noRoom_no {b : List UInt8} {s : St} (hr : s.ref = 0) : noRoom b s = false := by
  unfold noRoom
  rw [hr]
  simp
theorem app_on {s : St} {n : Nm} {b : List UInt8} (h : On s) (hr : s.ref = 0) (hn : good n = true) (hm : Room n s) : counted s (appendOn n b) = (lay1 n ⟨bsOf n s ++ b, syOf n s⟩ s, 0) := by
  rw [h.counted]
  unfold appendOn
  rw [if_pos hn, noRoom_no hr]
  cases hf : find n s.fs with
  | none =>
    have := hm hf
    simp only [if_neg (by omega : ¬ 16 ≤ s.fs.length), bsOf, syOf, hf]
    rfl
  | some f =>
    simp only [bsOf, syOf, hf]
    rfl
theorem app_refused {s : St} {n : Nm} {b : List UInt8} {k : Nat} (h : On s) (hr : s.ref = k + 1) (hb : 0 < b.length) (hn : good n = true) (hm : Room n s) : counted s (appendOn n b) = ({ s with ref := k }, 60) := by
  have hnr : noRoom b s = true := by
    unfold noRoom
    rw [hr]
    simp [hb]
  rw [h.counted]
  unfold appendOn
  rw [if_pos hn, hnr]
  cases hf : find n s.fs with
  | none =>
    have := hm hf
    simp only [if_neg (by omega : ¬ 16 ≤ s.fs.length), hr]
    rfl
  | some f =>
    simp only [hr]
    rfl
theorem sync_on {s : St} {n : Nm} {f : Fl} (h : On s) (hf : find n s.fs = some f) : counted s (syncOn n) = (lay1 n ⟨f.bs, f.bs.length⟩ s, 0) := by
  rw [h.counted]
  unfold syncOn onF
  rw [hf]
  rfl
/-- a file all of whose bytes are synced -/
def fl (b : List UInt8) : Fl := ⟨b, b.length⟩
theorem apd_on {s : St} {n : Nm} {r : Rec} (hi : Inc s.fs) (h : On s) (hr : s.ref = 0) (hn : good n = true) (hm : Room n s) (hg : encE r = 0) : apd n r s = (lay1 n (fl (bsOf n s ++ u8s (enc r))) s, 0) := by
  have h1 := app_on (b := u8s (enc r)) h hr hn hm
  rw [apd_two hg (by rw [h1]), h1, sync_on (h.lay1 _ _) (find_lay1 _ _ _), lay1_lay1 hi]
  rfl
theorem apd_refused {s : St} {n : Nm} {r : Rec} {k : Nat} (h : On s) (hr : s.ref = k + 1) (hn : good n = true) (hm : Room n s) (hg : encE r = 0) : apd n r s = ({ s with ref := k }, 60) := by
  have h1 := app_refused (b := u8s (enc r)) h hr (by rw [u8s_length]; have := enc_pos r; omega) hn hm
  rw [apd_one hg (by rw [h1]; show (60 : Int) ≠ 0; decide), h1]
/-! ### Open -/
theorem opn_gone {s : St} {n : Nm} (h : On s) (hf : find n s.fs = none) : Opn n s s 0 0 [] := by
  have hE : readE n (tick s) = 61 := by rw [h.tick, h.readE, hf]
  have := Opn.gone (s := s) hE
  rwa [h.tick] at this
theorem opn_whole {s : St} {n : Nm} {f : Fl} {rs : List Rec} (h : On s) (hf : find n s.fs = some f) (hg : Gds rs) (hb : nts f.bs = rowb rs) : Opn n s s 0 (rowb rs).length rs := by
  have hE : readE n (tick s) = 0 := by rw [h.tick, h.readE, hf]
  have hB : readB n (tick s) = f.bs := by rw [h.tick, h.readB, hf]
  have hl : f.bs.length = (rowb rs).length := by rw [← hb, nts_length]
  have := Opn.whole (s := s) (rs := rs) (k := (rowb rs).length) hE (by rw [hB, hb]; exact sc_nil hg) (by rw [hB]; omega)
  rwa [h.tick] at this
theorem opn_torn {s : St} {n : Nm} {f : Fl} {rs : List Rec} {t : List Nat} (h : On s) (hf : find n s.fs = some f) (hg : Gds rs) (hb : nts f.bs = rowb rs ++ t) (ht : (parse t).2.2 ≠ 0) (h0 : 0 < t.length) : Opn n s (lay1 n ⟨f.bs.take (rowb rs).length, min f.sy (rowb rs).length⟩ s) 0 (rowb rs).length rs := by
  have hE : readE n (tick s) = 0 := by rw [h.tick, h.readE, hf]
  have hB : readB n (tick s) = f.bs := by rw [h.tick, h.readB, hf]
  have hl : f.bs.length = (rowb rs).length + t.length := by rw [← nts_length, hb, List.length_append]
  have hc : counted (tick s) (cutOn n ((rowb rs).length : Nat)) = (lay1 n ⟨f.bs.take (rowb rs).length, min f.sy (rowb rs).length⟩ s, 0) := by
    rw [h.tick, h.counted]
    unfold cutOn onF
    rw [hf]
    simp only
    rw [if_neg (by omega), Int.toNat_natCast]
    rfl
  have := Opn.cut (s := s) (n := n) (rs := rs) (k := (rowb rs).length) hE (by rw [hB, hb]; exact sc_row hg ht) (by rw [hB]; omega) (by rw [hc])
  rwa [hc] at this
theorem nts_row {bs : List UInt8} {rs : List Rec} {t : List Nat} (h : nts bs = rowb rs ++ t) : nts (bs.take (rowb rs).length) = rowb rs := by
  rw [nts_take, h, List.take_left]
end Go.Proofs.YtdemoghlibnooaaGreatDoor
/- A disk with one file at most, in pure lists; the log's calls on a disk of the call's own. -/
namespace Go.Proofs.YtdemoghlibnooaaGreatDoor
open Go.RowKit Pk Dk
set_option linter.unusedVariables false
set_option linter.unusedSimpArgs false

/-! ### one file at most -/
def fx (n : Nm) : Option Fl → List (Nm × Fl)
  | none => []
  | some f => [(n, f)]
theorem find_fx (n : Nm) (x : Option Fl) : find n (fx n x) = x := by cases x <;> simp [fx, find]
theorem put_fx (n : Nm) (f : Fl) (x : Option Fl) : put n f (fx n x) = fx n (some f) := by cases x <;> simp [fx, put, ins, del]
theorem mapv_fx (n : Nm) (g : Fl → Fl) (x : Option Fl) : mapv g (fx n x) = fx n (x.map g) := by cases x <;> simp [fx, mapv]
theorem inc_fx (n : Nm) (x : Option Fl) : Inc (fx n x) := by cases x <;> simp [fx, Inc]
theorem len_fx (n : Nm) (x : Option Fl) : (fx n x).length ≤ 1 := by cases x <;> simp [fx]
def sg (n : Nm) (x : Option Fl) (off : Bool) (ref : Nat) (calls keep : Int) : St := ⟨fx n x, off, ref, calls, keep⟩
theorem sg_new (n : Nm) : Dk.new = sg n none false 0 (-1) 0 := rfl
theorem sg_on (n : Nm) (x : Option Fl) (ref : Nat) (keep : Int) : On (sg n x false ref (-1) keep) := ⟨rfl, rfl⟩
theorem sg_room (n : Nm) (x : Option Fl) (off : Bool) (ref : Nat) (calls keep : Int) : Room n (sg n x off ref calls keep) := fun _ => by
  have := len_fx n x
  show (fx n x).length < 16
  omega
theorem sg_find (n : Nm) (x : Option Fl) (off : Bool) (ref : Nat) (calls keep : Int) : find n (sg n x off ref calls keep).fs = x := find_fx n x
theorem sg_lay (n : Nm) (x : Option Fl) (f : Fl) (off : Bool) (ref : Nat) (calls keep : Int) : lay1 n f (sg n x off ref calls keep) = sg n (some f) off ref calls keep := by
  unfold lay1 sg
  simp only [put_fx]
theorem sg_crash (n : Nm) (x : Option Fl) (ref : Nat) (calls keep k : Int) : crash k (sg n x false ref calls keep) = sg n (x.map (crF k)) true ref (-1) keep := by
  unfold crash sg
  simp only [mapv_fx]
  rfl
theorem sg_crash_off (n : Nm) (x : Option Fl) (ref : Nat) (calls keep k : Int) : crash k (sg n x true ref calls keep) = sg n x true ref calls keep := rfl
theorem sg_up (n : Nm) (x : Option Fl) (off : Bool) (ref : Nat) (calls keep : Int) : up (sg n x off ref calls keep) = sg n x false ref (-1) keep := rfl
theorem sg_full (n : Nm) (x : Option Fl) (off : Bool) (ref : Nat) (calls keep k : Int) : full k (sg n x off ref calls keep) = sg n x off k.toNat calls keep := rfl
theorem sg_arm (n : Nm) (x : Option Fl) (off : Bool) (ref : Nat) (calls keep c k : Int) : arm c k (sg n x off ref calls keep) = sg n x off ref (max c (-1)) k := rfl
def bsX : Option Fl → List UInt8
  | none => []
  | some f => f.bs
theorem sg_bs (n : Nm) (x : Option Fl) (off : Bool) (ref : Nat) (calls keep : Int) : bsOf n (sg n x off ref calls keep) = bsX x := by
  unfold bsOf
  rw [sg_find]
  cases x <;> rfl
theorem sg_tick0 (n : Nm) (x : Option Fl) (off : Bool) (ref : Nat) (keep : Int) : tick (sg n x off ref 0 keep) = crash keep (sg n x off ref 0 keep) := rfl
theorem sg_tickP (n : Nm) (x : Option Fl) (off : Bool) (ref : Nat) {calls : Int} (keep : Int) (h : 0 < calls) : tick (sg n x off ref calls keep) = sg n x off ref (calls - 1) keep := by
  unfold tick sg
  simp only
  rw [if_neg (by omega), if_pos h]
theorem sg_tickN (n : Nm) (x : Option Fl) (off : Bool) (ref : Nat) (keep : Int) : tick (sg n x off ref (-1) keep) = sg n x off ref (-1) keep := rfl
/-- cut, all of it synced -/
theorem crF_fl (k : Int) (b : List UInt8) : crF k (fl b) = fl b := by
  have : cutN k (fl b) = b.length := by unfold cutN fl; simp
  unfold crF
  rw [this]
  simp [fl]
theorem crF_part (k : Int) (a b : List UInt8) : crF k ⟨a ++ b, a.length⟩ = fl (a ++ b.take k.toNat) := by
  have h : cutN k ⟨a ++ b, a.length⟩ = a.length + min k.toNat b.length := by unfold cutN; simp
  unfold crF
  rw [h]
  have h2 : (a ++ b).take (a.length + min k.toNat b.length) = a ++ b.take k.toNat := by
    rw [List.take_length_add_append]
    congr 1
    by_cases hk : k.toNat ≤ b.length
    · rw [Nat.min_eq_left hk]
    · rw [Nat.min_eq_right (by omega), List.take_length, List.take_of_length_le (by omega)]
  simp only [h2, fl, List.length_append, List.length_take]

/-! ### the log's calls, on a disk of the call's own -/
theorem tab_pos {w : World} (h : TabIn w) : 2 < w.heap.size := by
  have h0 := h 0 (by decide)
  rcases Nat.lt_or_ge 2 w.heap.size with hz | hz
  · exact hz
  · have hn : w.heap[2]? = none := Array.getElem?_eq_none (by omega)
    simp [World.cell?, hn] at h0
theorem Dn.tab {w0 w : World} {p : Nat} {F : Nat → Prop} {s : St} (h : Dn w0 w p F s) (ht : TabIn w0) : TabIn w := ht.keepsN h.kept
theorem Dn.no0 {w0 w : World} {p : Nat} {F : Nat → Prop} {s : St} (h : Dn w0 w p F s) (ht : TabIn w0) : ¬ F 2 := fun h0 => by
  have := h.new 2 h0
  have := tab_pos ht
  omega
theorem Dn.wide {w0 w w' : World} {p : Nat} {F : Nat → Prop} {s s' : St} {q : Nat} (h : Dn w0 w p F s) (hq : w0.heap.size ≤ q) (hi : IsD w' p (grow F w w') s') (hk : Keeps (fun x => F x ∨ x = q) w w') : Dn w0 w' p (grow F w w') s' :=
  ⟨hi, fun k hk => by
    rcases hk with h1 | h1
    · exact h.new k h1
    · exact Nat.le_trans h.kept.size h1.1, h.kept.then hk (fun i hi => .inr (by
    rcases hi with h1 | h1
    · exact h.new i h1
    · omega))⟩
def DOpenTo (w0 w : World) (p : Nat) (F : Nat → Prop) (s' : St) (n : Tx) (k : Nat) (rs : List Rec) (e : Ending) (w' : World) : Prop :=
  ∃ (q : Nat) (o : Option Addr) (m c : Nat) (vs : List CV), e = .returned (.tuple #[.pointer (some ⟨q, 0, none⟩), .slice o m c, .int .i64 0]) ∧ Hid (m = rs.length) ∧ Hid (IsL w' q p n k ∧ w.heap.size ≤ q ∧ ¬ F q) ∧ Hid (Scn w w' o c vs rs) ∧ Hid (Dn w0 w' p F s') ∧ Hid (Keeps F w w')
theorem dn_open {w0 w : World} {p : Nat} {F : Nat → Prop} {s s' : St} {k : Nat} {rs : List Rec} (n : Tx) (h : Dn w0 w p F s) (ht : TabIn w0) (hO : Opn n.data.toList s s' 0 k rs) (hn : n.size ≤ 281474976710656) (hb : (readB n.data.toList (tick s)).length ≤ 1099511627776) :
    Calls Tryz.prog 51 #[.pointer (some ⟨p, 0, none⟩), .string n] w (DOpenTo w0 w p F s' n k rs) := by
  refine (Open_any w p F s n h.is hn (h.tab ht) (h.no0 ht) hb).mono ?_
  rintro e w' (⟨s2, E, rfl, hO2, hE, hi, hk⟩ | ⟨s2, q, o, m, c, k2, vs, rs2, rfl, hO2, hm, hL, hS, _, _, hi, hk⟩)
  · exact absurd (hO.one hO2.out).2.1.symm hE
  · obtain ⟨rfl, _, rfl, rfl⟩ := hO.one hO2.out
    exact ⟨q, o, m, c, vs, rfl, hm, ⟨hL.out.1, hL.out.2, fun hF => by have := h.is.lt q hF; have := hL.out.2; omega⟩, hS, h.same hi.out hk.out, hk⟩
theorem dn_open_no {w0 w : World} {p : Nat} {F : Nat → Prop} {s s' : St} {E : Int} (n : Tx) (h : Dn w0 w p F s) (ht : TabIn w0) (hO : Opn n.data.toList s s' E 0 []) (hE : E ≠ 0) (hn : n.size ≤ 281474976710656) (hb : (readB n.data.toList (tick s)).length ≤ 1099511627776) :
    Calls Tryz.prog 51 #[.pointer (some ⟨p, 0, none⟩), .string n] w fun e w' => e = .returned (.tuple #[.pointer none, .slice none 0 0, .int .i64 E]) ∧ Hid (Dn w0 w' p F s') ∧ Hid (Keeps F w w') := by
  refine (Open_any w p F s n h.is hn (h.tab ht) (h.no0 ht) hb).mono ?_
  rintro e w' (⟨s2, E2, rfl, hO2, hE2, hi, hk⟩ | ⟨s2, q, o, m, c, k2, vs, rs2, rfl, hO2, hm, hL, hS, _, _, hi, hk⟩)
  · obtain ⟨rfl, rfl, _, _⟩ := hO.one hO2.out
    exact ⟨rfl, h.same hi.out hk.out, hk⟩
  · exact absurd (hO.one hO2.out).2.1 hE
def DLogTo (w0 w : World) (q p : Nat) (F : Nat → Prop) (s' : St) (er : Int) (n : Tx) (k' : Nat) (e : Ending) (w' : World) : Prop :=
  e = .returned (.int .i64 er) ∧ Hid (Dn w0 w' p (grow F w w') s') ∧ Hid (IsL w' q p n k') ∧ Hid (Keeps (fun x => F x ∨ x = q) w w')
theorem dn_log {w0 w : World} {q p : Nat} {F : Nat → Prop} {s s' : St} {er : Int} {k k' : Nat} {r : Rec} (n : Tx) (v : CV) (h : Dn w0 w p F s) (ht : TabIn w0) (hL : IsL w q p n k) (hq : ¬ F q) (hq0 : w0.heap.size ≤ q) (hc : IsC w v r) (hA : apd n.data.toList r s = (s', er)) (hk' : (if er = 0 then k + (enc r).length else k) = k') (hn : n.size ≤ maxLen) (hk : (k : Int) ≤ 140737488355328)
    (hfit : encE r = 0 → ∀ f, find n.data.toList (tick s).fs = some f → f.bs.length + (enc r).length ≤ 140737488355328) :
    Calls Tryz.prog 57 #[.pointer (some ⟨q, 0, none⟩), .agg #[.int .i64 v.k, .int .u64 (v.i : Nat), .slice v.op v.np v.cp, .slice v.ok v.nk v.ck]] w (DLogTo w0 w q p F s' er n k') := by
  refine (LogAppend_any w q p F s n k v r h.is hL hq hn hk hc (h.tab ht) hfit).mono ?_
  rintro e w' ⟨rfl, hi, hl, hk⟩
  rw [hA] at hi hl ⊢
  rw [hk'] at hl
  exact ⟨rfl, h.wide hq0 hi.out hk.out, hl, hk⟩
theorem grow_no {F : Nat → Prop} {w w' : World} {q : Nat} (h : ¬ F q) (hq : q < w.heap.size) : ¬ grow F w w' q := by
  rintro (h1 | h1)
  · exact h h1
  · omega
theorem dn_new (w : World) : Calls Tryz.prog 7 #[] w fun e w' => ∃ p, e = .returned (.pointer (some ⟨p, 0, none⟩)) ∧ Hid (Dn w w' p (fun k => w.heap.size ≤ k ∧ k < w'.heap.size) Dk.new) ∧ Hid (Keeps no w w') := by
  refine (new_anyW w).mono ?_
  rintro e w' ⟨p, rfl, hi, hk⟩
  exact ⟨p, rfl, ⟨hi, fun k hk => hk.1, hk⟩, hk⟩
end Go.Proofs.YtdemoghlibnooaaGreatDoor
/- The laws' alive. -/
namespace Go.Proofs.YtdemoghlibnooaaGreatDoor
open Go.RowKit Pk Dk
set_option linter.unusedVariables false
set_option linter.unusedSimpArgs false

def nl0 : Tx := ⟨#[108, 111, 103, 46, 48]⟩
theorem nl0_good : good nl0.data.toList = true := by decide
theorem cmR_gd {q : Nat} (h : 1 ≤ q) (h2 : q ≤ 1000000) : Gd (cmR q) := ⟨cmR_may h, by simp only [cmR]; omega, by rw [cmR_body]; omega⟩
theorem cmR_enc (q : Nat) : (enc (cmR q)).length = 17 := by rw [enc_length, cmR_body]
def cb (q : Nat) : List UInt8 := u8s (enc (cmR q))
theorem cb_len (q : Nat) : (cb q).length = 17 := by rw [cb, u8s_length, cmR_enc]
theorem cb_nts (q : Nat) : nts (cb q) = enc (cmR q) := nts_u8s (enc_byt _)
theorem rowb1 (r : Rec) : rowb [r] = enc r := by simp [rowb]
theorem rowb2 (a b : Rec) : rowb [a, b] = enc a ++ enc b := by simp [rowb]
theorem gds1 {r : Rec} (h : Gd r) : Gds [r] := fun x hx => by rw [List.mem_singleton.1 hx]; exact h
theorem gds2 {a b : Rec} (h : Gd a) (h2 : Gd b) : Gds [a, b] := fun x hx => by
  rcases List.mem_cons.1 hx with rfl | hx
  · exact h
  · rw [List.mem_singleton.1 hx]; exact h2
/-! ### the states that alive goes through -/
theorem al1 (n : Nm) (hn : good n = true) : apd n (cmR 1) Dk.new = (sg n (some (fl (cb 1))) false 0 (-1) 0, 0) := by
  rw [sg_new n, apd_on (inc_fx n none) (sg_on n none 0 0) rfl hn (sg_room _ _ _ _ _ _) (cmR_gd (by omega) (by omega)).encE, sg_lay, sg_bs]
  rfl
theorem al2 (n : Nm) (hn : good n = true) : counted (sg n (some (fl (cb 1))) false 0 (-1) 0) (appendOn n ((cb 1).take 5)) = (sg n (some ⟨cb 1 ++ (cb 1).take 5, (cb 1).length⟩) false 0 (-1) 0, 0) := by
  rw [app_on (sg_on ..) rfl hn (sg_room _ _ _ _ _ _), sg_lay, sg_bs]
  simp only [syOf, sg_find]
  rfl
theorem al3 (n : Nm) : up (crash 3 (sg n (some ⟨cb 1 ++ (cb 1).take 5, (cb 1).length⟩) false 0 (-1) 0)) = sg n (some (fl (cb 1 ++ (cb 1).take 3))) false 0 (-1) 0 := by
  rw [sg_crash, sg_up, Option.map_some, crF_part]
  congr 4
theorem al4 (n : Nm) : Opn n (sg n (some (fl (cb 1 ++ (cb 1).take 3))) false 0 (-1) 0) (sg n (some (fl (cb 1))) false 0 (-1) 0) 0 17 [cmR 1] := by
  have hg := cmR_gd (q := 1) (by omega) (by omega)
  have h := opn_torn (sg_on n (some (fl (cb 1 ++ (cb 1).take 3))) 0 0) (sg_find ..) (gds1 hg) (t := (enc (cmR 1)).take 3) (by simp only [fl, nts_append, nts_take, cb_nts, rowb1]) (torn_ne hg (by rw [cmR_enc]; omega)) (by rw [List.length_take, cmR_enc]; omega)
  rw [rowb1, cmR_enc, sg_lay] at h
  have e : (⟨(fl (cb 1 ++ (cb 1).take 3)).bs.take 17, min (fl (cb 1 ++ (cb 1).take 3)).sy 17⟩ : Fl) = fl (cb 1) := by
    have hl := cb_len 1
    simp only [fl]
    have e1 : (cb 1 ++ (cb 1).take 3).take 17 = cb 1 := by rw [List.take_append_of_le_length (by omega), List.take_of_length_le (by omega)]
    rw [e1]
    congr 1
  rw [e] at h
  exact h
theorem al5 (n : Nm) (hn : good n = true) : apd n (cmR 2) (full 1 (sg n (some (fl (cb 1))) false 0 (-1) 0)) = (sg n (some (fl (cb 1))) false 0 (-1) 0, 60) := by
  rw [sg_full]
  exact apd_refused (sg_on ..) rfl hn (sg_room _ _ _ _ _ _) (cmR_gd (by omega) (by omega)).encE
theorem al6 (n : Nm) (hn : good n = true) : apd n (cmR 3) (arm 1 100 (sg n (some (fl (cb 1))) false 0 (-1) 0)) = (sg n (some (fl (cb 1 ++ cb 3))) true 0 (-1) 100, 62) := by
  have hl := cb_len 3
  have h1 : counted (arm 1 100 (sg n (some (fl (cb 1))) false 0 (-1) 0)) (appendOn n (u8s (enc (cmR 3)))) = (sg n (some ⟨cb 1 ++ cb 3, (cb 1).length⟩) false 0 0 100, 0) := by
    have e : counted (arm 1 100 (sg n (some (fl (cb 1))) false 0 (-1) 0)) (appendOn n (u8s (enc (cmR 3)))) = appendOn n (cb 3) (sg n (some (fl (cb 1))) false 0 0 100) := rfl
    rw [e]
    unfold appendOn
    rw [if_pos hn, noRoom_no rfl, sg_find]
    show (lay1 n _ (sg n _ _ _ _ _), (0 : Int)) = _
    rw [sg_lay]
    rfl
  rw [apd_two (cmR_gd (by omega) (by omega)).encE (by rw [h1]), h1]
  have h2 : counted (sg n (some ⟨cb 1 ++ cb 3, (cb 1).length⟩) false 0 0 100) (syncOn n) = (crash 100 (sg n (some ⟨cb 1 ++ cb 3, (cb 1).length⟩) false 0 0 100), 62) := rfl
  show counted (sg n (some ⟨cb 1 ++ cb 3, (cb 1).length⟩) false 0 0 100) (syncOn n) = _
  rw [h2, sg_crash, Option.map_some, crF_part, List.take_of_length_le (by rw [hl]; decide)]
theorem al7 (n : Nm) : Opn n (up (sg n (some (fl (cb 1 ++ cb 3))) true 0 (-1) 100)) (up (sg n (some (fl (cb 1 ++ cb 3))) true 0 (-1) 100)) 0 34 [cmR 1, cmR 3] := by
  have h := opn_whole (sg_on n (some (fl (cb 1 ++ cb 3))) 0 100) (sg_find ..) (gds2 (cmR_gd (q := 1) (by omega) (by omega)) (cmR_gd (q := 3) (by omega) (by omega))) (by simp only [fl, nts_append, cb_nts, rowb2])
  rw [rowb2, List.length_append, cmR_enc, cmR_enc] at h
  exact h
end Go.Proofs.YtdemoghlibnooaaGreatDoor
/- More calls on a disk of the call's own; records told, cell by cell. -/
namespace Go.Proofs.YtdemoghlibnooaaGreatDoor
open Go.RowKit Pk Dk
set_option linter.unusedVariables false
set_option linter.unusedSimpArgs false

theorem bsOf_tick (n : Nm) (s : St) : (bsOf n (tick s)).length ≤ (bsOf n s).length := by
  unfold tick
  split
  · unfold crash
    split
    · exact Nat.le_refl _
    · unfold bsOf
      simp only [find_mapv]
      cases find n s.fs with
      | none => simp
      | some f =>
        simp only [Option.map_some, crF, List.length_take]
        omega
  · split
    · exact Nat.le_refl _
    · exact Nat.le_refl _
theorem fit_of {n : Nm} {s : St} {m B : Nat} (h : (bsOf n s).length + m ≤ B) : ∀ f, find n (tick s).fs = some f → f.bs.length + m ≤ B := fun f hf => by
  have h1 := bsOf_tick n s
  unfold bsOf at h1
  rw [hf] at h1
  simp only at h1
  unfold bsOf at h
  omega
theorem readB_le (n : Nm) (s : St) : (readB n (tick s)).length ≤ (bsOf n s).length := by
  have h1 := bsOf_tick n s
  unfold readB
  split
  · simp
  · exact h1
/-- a list of records by itself: its cells -/
theorem Own.atC0 {w : World} {o : Option Addr} {c : Nat} {vs : List CV} (h : Own CE w o c vs) (h0 : 0 < vs.length) : ∃ g, o = some ⟨g, 0, none⟩ ∧ ∀ j, j < vs.length → w.cell? ⟨g, j * 4, none⟩ = some (.int .i64 (vs.getD j cv0).k) ∧ w.cell? ⟨g, j * 4 + 1, none⟩ = some (.int .u64 ((vs.getD j cv0).i : Nat)) ∧ w.cell? ⟨g, j * 4 + 2, none⟩ = some (.slice (vs.getD j cv0).op (vs.getD j cv0).np (vs.getD j cv0).cp) ∧ w.cell? ⟨g, j * 4 + 3, none⟩ = some (.slice (vs.getD j cv0).ok (vs.getD j cv0).nk (vs.getD j cv0).ck) := by
  rcases h.shape with ⟨_, _, e⟩ | ⟨g, _, e, _⟩
  · rw [e] at h0; simp at h0
  · subst e
    refine ⟨g, rfl, fun j hj => ?_⟩
    obtain ⟨b, off, e, h1, h2, h3, h4⟩ := h.sl.atCE hj
    cases e
    rw [Nat.zero_add] at h1 h2 h3 h4
    exact ⟨h1, h2, h3, h4⟩
theorem sg_readB (n : Nm) (x : Option Fl) (ref : Nat) (calls keep : Int) : readB n (sg n x false ref calls keep) = bsX x := by
  show (match find n (sg n x false ref calls keep).fs with | none => [] | some f => f.bs) = _
  rw [sg_find]
  cases x <;> rfl
theorem sg_readE (n : Nm) (f : Fl) (ref : Nat) (calls keep : Int) : readE n (sg n (some f) false ref calls keep) = 0 := by
  unfold readE
  rw [sg_find]
  rfl
end Go.Proofs.YtdemoghlibnooaaGreatDoor
/- The laws' alive: its walk. -/
namespace Go.Proofs.YtdemoghlibnooaaGreatDoor
open Go.RowKit Pk Dk
set_option linter.unusedVariables false
set_option linter.unusedSimpArgs false

end Go.Proofs.YtdemoghlibnooaaGreatDoor
/- Regions that draw and only read, their callees laying new blocks alone: one walk. -/
namespace Go.Proofs.YtdemoghlibnooaaGreatDoor
open Go.RowKit Pk Dk
set_option linter.unusedVariables false
set_option linter.unusedSimpArgs false

theorem keeps_grown (W : World) (d : Nat) (os : Array Obj) : Keeps no W (Sort.grow (redrawn W d) os) := Keeps.of_below (below_regrown W d os)
theorem grown_keeps {W X : World} (h : Keeps no W X) : ∃ p : Regrown, X = Sort.grow (redrawn W p.d) p.os := regrown_of_below (h.below (Nat.le_refl _) (fun _ h => h.elim))
theorem call_grownW {f : FuncId} {args : Array Value} {W : World} {v : Value} (h : ∀ X, Keeps no W X → Calls Tryz.prog f args X fun e w' => e = .returned v ∧ Keeps no X w') (d : Nat) (os : Array Obj) :
    Calls Tryz.prog f args (Sort.grow (redrawn W d) os) fun e w'' => e = .returned v ∧ ∃ p : Regrown, w'' = Sort.grow (redrawn W p.d) p.os :=
  (h _ (keeps_grown W d os)).mono fun e w' ⟨he, hk⟩ => ⟨he, grown_keeps ((keeps_grown W d os).trans hk)⟩
end Go.Proofs.YtdemoghlibnooaaGreatDoor
/- own, Build, List: contracts in a shorter form. -/
namespace Go.Proofs.YtdemoghlibnooaaGreatDoor
open Go.RowKit Pk Dk
set_option linter.unusedVariables false
set_option linter.unusedSimpArgs false

def OwnD (w : World) (k : Int) (i np nk : Nat) (r : Rec) (e : Ending) (w' : World) : Prop :=
  ∃ (v : CV), e = .returned (.agg #[.int .i64 v.k, .int .u64 (v.i : Nat), .slice v.op v.np v.cp, .slice v.ok v.nk v.ck]) ∧ Hid (Got w w' v r) ∧ Hid (Keeps no w w')
def BuildD (w : World) (r : Rec) (e : Ending) (w' : World) : Prop := ∃ o n c, e = .returned (.tuple #[.slice o n c, .int .i64 ((encE r : Nat) : Int)]) ∧ Hid (n = (encB r).length) ∧ Hid (Owns w' o c (encB r)) ∧ Hid (New w o) ∧ Hid (Keeps no w w')
theorem build_v (w : World) (v : CV) (r : Rec) (h : IsC w v r) (ht : TabIn w) :
    Calls Tryz.prog 108 #[.agg #[.int .i64 v.k, .int .u64 (v.i : Nat), .slice v.op v.np v.cp, .slice v.ok v.nk v.ck]] w (BuildD w r) := by
  refine (Build_any w v.k v.i v.op v.np v.cp v.ok v.nk v.ck r h ht).mono ?_
  rintro e w' ⟨o, n, c, rfl, h1, h2, h3, h4⟩
  exact ⟨o, n, c, rfl, h1, h2, h3, h4⟩
def ListD (w0 w : World) (p : Nat) (F : Nat → Prop) (s' : St) (m : Nat) (er : Int) (e : Ending) (w' : World) : Prop := ∃ o c, e = .returned (.tuple #[.slice o m c, .int .i64 er]) ∧ Hid (Dn w0 w' p F s') ∧ Hid (Keeps F w w')
theorem dn_list {w0 w : World} {p : Nat} {F : Nat → Prop} {s s' : St} {m : Nat} {er : Int} (h : Dn w0 w p F s) (hA : tick s = s') (hB : (listN s').length = m) (hE : listE s' = er) :
    Calls Tryz.prog 18 #[.pointer (some ⟨p, 0, none⟩)] w (ListD w0 w p F s' m er) := by
  refine (list_any w p F s h.is).mono ?_
  rintro e w' ⟨o, c, m', rfl, hm, ho, hnw, hi, hk⟩
  rw [hA] at hi hm ⊢
  rw [hB] at hm
  obtain rfl : m' = m := hm.out
  rw [hE]
  exact ⟨o, c, rfl, h.same hi hk, hk⟩

end Go.Proofs.YtdemoghlibnooaaGreatDoor
