import Derived.Test.YtdemoghlibnooaaGreatDoorFz
import Derived.Test.YtdemoghlibnooaaGreatDoorR2
import Derived.Test.YtdemoghlibnooaaGreatDoorB4
import Derived.Deep.RegionHeldLaw
import Derived.Laws.BitsAllLaws
namespace Go.Proofs.YtdemoghlibnooaaGreatDoor
open Go.RowKit Go.Maps Go.Sort Orl Pk
set_option linter.unusedVariables false
set_option linter.unusedSimpArgs false
section
variable {B : Nat} {w w' : World} {p : Nat} {s : St} {N : Nat} {P : Nat → Prop}
theorem Sto.keptK (h : Sto B w p s N P) (hN : N ≤ 1954687338211) :
    Calls Tryz.prog 33 #[.pointer (some ⟨p, 0, none⟩)] w fun e w' => ∃ o n c ks, e = .returned (.slice o n c) ∧ Hid (Kd s ks o n c w' ∧ Kl w ks o c w' ∧ Keeps no w w' ∧ ks.length ≤ N) := by
  obtain ⟨T, hi, ho, _⟩ := h
  refine (kept_any w p T s N hi ho.v hN).mono ?_
  rintro e w' ⟨v, rfl, o, n, c, ks, rfl, hn, hK, hl⟩
  exact ⟨o, n, c, ks, rfl, ⟨hn.out, hK.out.1.own, fun x hx => (hK.out.1.key x hx).1, hK.out.2.1, hK.out.2.2.2, hK.out.2.2.1, ho, by have := hl.out; omega⟩, hK.out.1, hK.out.1.keep, hl.out⟩
end
end Go.Proofs.YtdemoghlibnooaaGreatDoor
namespace Go.Proofs.YtdemoghlibnooaaGreatDoor
open Go.RowKit Go.Maps Go.Sort Orl Pk
set_option linter.unusedVariables false
set_option linter.unusedSimpArgs false
def NM : List Tx := [⟨#[]⟩, ⟨#[97]⟩, ⟨#[98]⟩, ⟨#[99]⟩, ⟨#[100]⟩, ⟨#[101]⟩]
def bitN (b k : Nat) : Bool := decide (b / 2 ^ k % 2 = 1)
def namesTo (b : Nat) : Nat → List Tx
  | 0 => []
  | k + 1 => namesTo b k ++ (if bitN b k then [NM.getD k e0] else [])
theorem namesTo_succ (b k : Nat) : namesTo b (k + 1) = namesTo b k ++ (if bitN b k then [NM.getD k e0] else []) := rfl
theorem namesTo_len (b : Nat) : ∀ k, (namesTo b k).length ≤ k
  | 0 => Nat.le_refl _
  | k + 1 => by
    have := namesTo_len b k
    rw [namesTo_succ, List.length_append]
    split <;> simp <;> omega
theorem bit_test (b k : Nat) (hb : b < 256) : (bits .and .u8 ((b : Int) / 2 ^ k) 1 == 1) = bitN b k := by
  have h1 : ((b : Int) / 2 ^ k) = ((b / 2 ^ k : Nat) : Int) := by simp
  have h2 := u8_and_nat (b / 2 ^ k) 1 (Nat.lt_of_le_of_lt (Nat.div_le_self _ _) hb) (by decide)
  rw [Nat.and_one_is_mod] at h2
  have h3 : bits .and .u8 ((b / 2 ^ k : Nat) : Int) 1 = ((b / 2 ^ k % 2 : Nat) : Int) := h2
  rw [h1, h3]
  unfold bitN
  by_cases e : b / 2 ^ k % 2 = 1
  · simp [e]
  · have : b / 2 ^ k % 2 = 0 := by omega
    simp [this]
set_option maxRecDepth 10000 in
set_option maxHeartbeats 1000000 in
theorem names_any (w : World) (b : Nat) (hb : b < 256) : Calls Tryz.prog 56 #[.int .u8 ((b : Nat) : Int)] w fun e w' => ∃ v, e = .returned v ∧ Gives TE w (namesTo b 6) v w' := by
  go_enter Tryz.func56, Tryz.ntmps56
  go_wp2_with fail
  generalize hB : w.heap.size = B
  have hbk := blk_new w (.cells #[.string ⟨#[]⟩, .string ⟨#[97]⟩, .string ⟨#[98]⟩, .string ⟨#[99]⟩, .string ⟨#[100]⟩, .string ⟨#[101]⟩] 9)
  have hk0 := (Keeps.refl no w).alloc (.cells #[.string ⟨#[]⟩, .string ⟨#[97]⟩, .string ⟨#[98]⟩, .string ⟨#[99]⟩, .string ⟨#[100]⟩, .string ⟨#[101]⟩] 9)
  rw [hB] at hbk
  generalize w.alloc (.cells #[.string ⟨#[]⟩, .string ⟨#[97]⟩, .string ⟨#[98]⟩, .string ⟨#[99]⟩, .string ⟨#[100]⟩, .string ⟨#[101]⟩] 9) = w1 at hbk hk0 ⊢
  have HK : Hid (Keeps no w w1 ∧ w1.heap[B]? = some (.cells #[.string ⟨#[]⟩, .string ⟨#[97]⟩, .string ⟨#[98]⟩, .string ⟨#[99]⟩, .string ⟨#[100]⟩, .string ⟨#[101]⟩] 9 (0, 0))) := ⟨hk0, hbk⟩
  clear hk0 hbk hB
  go_loopw [4, 5] (fun s4 s5 wr => ∃ (k : Nat) (v : Value), k ≤ 6 ∧ s5 = .int .i64 k ∧ s4 = v ∧ Hid (∃ o n c, v = .slice o n c ∧ n = (namesTo b k).length ∧ Own TE wr o c (namesTo b k) ∧ New w1 o ∧ Keeps no w1 wr)) (fun _ s5 _ => 6 - (intOf s5).toNat)
  case atStart => exact ⟨0, _, by omega, rfl, rfl, none, 0, 0, rfl, rfl, own_nil _, new_none _, Keeps.refl _ _⟩
  case round =>
    obtain ⟨k, v, hk, rfl, rfl, HG⟩ := hrel
    obtain ⟨o, n, c, rfl, hn, ho, hnw, hkp⟩ := HG.out
    have HD : Hid (n = (namesTo b k).length ∧ Own TE wr o c (namesTo b k) ∧ New w1 o ∧ Keeps no w1 wr) := ⟨hn, ho, hnw, hkp⟩
    clear HG hn ho hnw hkp
    by_cases hlt : k < 6
    · have hlt' : (k : Int) < 6 := by omega
      have d0 : wr.cell? ⟨B, k, none⟩ = some (.string (NM.getD k e0)) := by
        rw [cell_of_blk (HD.out.2.2.2.at HK.out.2 id)]
        match k, hlt with
        | 0, _ => rfl
        | 1, _ => rfl
        | 2, _ => rfl
        | 3, _ => rfl
        | 4, _ => rfl
        | 5, _ => rfl
      obtain ⟨x, hx⟩ : ∃ x, x = NM.getD k e0 := ⟨_, rfl⟩
      rw [← hx] at d0
      have HX : Hid (x = NM.getD k e0) := hx
      have hbt := bit_test b k hb
      have hsn := namesTo_succ b k
      rw [← hx] at hsn
      have hlen := namesTo_len b k
      have HSN : Hid (namesTo b (k + 1) = namesTo b k ++ (if bitN b k then [x] else []) ∧ (namesTo b k).length ≤ k) := ⟨hsn, hlen⟩
      clear hx hsn hlen
      cases hbb : bitN b k with
      | true =>
        rw [hbb] at hbt HSN
        have HBD : Hid (((namesTo b k).length + [x].length) * TE.nb ≤ 140737488355328 ∧ (namesTo b k).length + [x].length ≤ 140737488355328) := ⟨by have := HSN.out.2; simp [TE]; omega, by have := HSN.out.2; simp; omega⟩
        clear hbb
        go_wp2_with (at_builtin; refine wpList_app okT rfl _ _ rfl _ _ _ (namesTo b k) rfl HD.out.1 (HD.out.2.1.keepsN ((Keeps.refl _ _).alloc _)) _ _ _ [x] rfl rfl (fun h => by cases h) ((own_one wr x).row) HBD.out.1 HBD.out.2 ?_; intro o1 c1 w3 ho3 hap3)
        go_roundw
        case rel =>
          have hnn := hap3.new HD.out.2.2.1 (HD.out.2.2.2.alloc (.cells #[.string x] 9))
          refine ⟨k + 1, _, by omega, by go_num, rfl, o1, _, c1, rfl, ?_, ?_, hnn.1, hnn.2⟩
          · rw [HSN.out.1, List.length_append, ← HD.out.1]; rfl
          · rw [HSN.out.1]; exact ho3
        case measure => simp [intOf]; omega
      | false =>
        rw [hbb] at hbt HSN
        clear hbb
        go_wp2_with fail
        go_roundw
        case rel =>
          have e : namesTo b (k + 1) = namesTo b k := by rw [HSN.out.1]; simp
          refine ⟨k + 1, _, by omega, by go_num, rfl, o, n, c, rfl, ?_, ?_, HD.out.2.2.1, HD.out.2.2.2⟩
          · rw [e]; exact HD.out.1
          · rw [e]; exact HD.out.2.1
        case measure => simp [intOf]; omega
    · have hk6 : k = 6 := by omega
      subst hk6
      go_wp2_with fail
      go_ret
      exact ⟨_, rfl, o, n, c, rfl, HD.out.1, HD.out.2.1, HD.out.2.2.1.of_le HK.out.1.size, HK.out.1.trans HD.out.2.2.2⟩
def idn (i : Nat) : Nat := 65536 * (1 + i / 4 % 16) + i % 4
theorem idn_le (i : Nat) : 65536 ≤ idn i ∧ idn i ≤ 1048579 := by unfold idn; omega
def cutV (v : Tx) : Tx := ByteArray.extract v 0 (min (v.size : Int) 300).toNat
theorem cutV_size (v : Tx) : (cutV v).size ≤ 300 := by
  unfold cutV
  rw [ByteArray.size_extract]
  omega
def opPrs (b : Nat) (v : Tx) : List Pr := (namesTo b 6).map fun k => (k, cutV v)
theorem opPrs_len (b : Nat) (v : Tx) : (opPrs b v).length = (namesTo b 6).length := by simp [opPrs]
theorem oT_pne : (85 : TypeId) ≠ 9 := by decide
theorem andB (a b : Nat) (ha : a < 256) (hb : b < 256) : bits .and .u8 (a : Int) (b : Int) = ((a &&& b : Nat) : Int) := u8_and_nat a b ha hb
theorem and_lt (a b : Nat) (ha : a < 256) : a &&& b < 256 := Nat.lt_of_le_of_lt Nat.and_le_left ha
theorem two_newN (w : World) (x y : Obj) : ((w.alloc x).alloc y).heap[w.heap.size]? = some x ∧ ((w.alloc x).alloc y).heap[w.heap.size + 1]? = some y := by
  refine ⟨blk_alloc (blk_new w x) y, ?_⟩
  have := blk_new (w.alloc x) y
  rw [World.size_alloc] at this
  exact this
theorem getD_in {α : Type} {l : List α} {j : Nat} {d : α} (h : j < l.length) : l.getD j d = l[j] := by simp [List.getD_eq_getElem?_getD, h]
structure OV where
  k : Int
  i : Nat
  a : Nat
  b : Nat
  v : Tx
structure OVok (x : OV) : Prop where
  i : x.i < 18446744073709551616
  a : x.a < 256
  b : x.b < 256
def OV.val (x : OV) : Value := .agg #[.int .i64 x.k, .int .u64 ((x.i : Nat) : Int), .int .u8 ((x.a : Nat) : Int), .int .u8 ((x.b : Nat) : Int), .string x.v]
def opRec (x : OV) : Rec := if x.k = 2 then ⟨2, idn x.i, [], []⟩ else ⟨1, idn x.i, opPrs (x.a &&& x.b) x.v, namesTo x.a 6⟩
def opIs (x : OV) : Bool := decide (x.k = 2) || (decide (x.k = 1) && decide (0 < (opPrs (x.a &&& x.b) x.v).length))
def RecTo (w : World) (r : Rec) (b : Bool) (e : Ending) (w' : World) : Prop :=
  ∃ v : CV, e = .returned (.tuple #[.agg #[.int .i64 v.k, .int .u64 (v.i : Nat), .slice v.op v.np v.cp, .slice v.ok v.nk v.ck], .bool b]) ∧ Hid (Got w w' v r) ∧ Hid (Keeps no w w')
theorem nm_size : ∀ k, (NM.getD k e0).size ≤ 1
  | 0 => by decide
  | 1 => by decide
  | 2 => by decide
  | 3 => by decide
  | 4 => by decide
  | 5 => by decide
  | k + 6 => by simp [NM, List.getD]; decide
theorem namesTo_size (b : Nat) : ∀ k, ∀ s ∈ namesTo b k, s.size ≤ 1
  | 0, s, h => by cases h
  | k + 1, s, h => by
    rw [namesTo_succ] at h
    rcases List.mem_append.1 h with h1 | h1
    · exact namesTo_size b k s h1
    · split at h1
      · rw [List.mem_singleton.1 h1]; exact nm_size k
      · cases h1
theorem idn_lt (i : Nat) : idn i < 18446744073709551616 := by have := idn_le i; omega
theorem opRec_fit (x : OV) : FitR (opRec x) := by
  unfold opRec
  split
  · exact ⟨by simp, (fun s hs => by cases hs), by simp, (fun p hp => by cases hp), by simp, by simp, idn_lt _⟩
  · refine ⟨?_, fun s hs => ?_, ?_, fun p hp => ?_, by simp, by simp, idn_lt _⟩
    · have := namesTo_len x.a 6; show (namesTo x.a 6).length ≤ _; omega
    · have := namesTo_size x.a 6 s hs; omega
    · have := namesTo_len (x.a &&& x.b) 6; show (opPrs _ _).length ≤ _; rw [opPrs_len]; omega
    · obtain ⟨k, hk, rfl⟩ := List.mem_map.1 hp
      have := namesTo_size _ 6 k hk
      have := cutV_size x.v
      exact ⟨by simp only; omega, by simp only; omega⟩
theorem own_not {α : Type} {E : El α} {w : World} {o : Option Addr} {c : Nat} {xs : List α} (h : Own E w o c xs) {b : Nat} {cs : Array Value} {t : TypeId} (hb : w.heap[b]? = some (.cells cs t (0, 0))) (ht : t ≠ E.e) : ¬ inO o b := fun hc => by
  obtain ⟨cur, hcur⟩ := h.tag b hc
  rw [hb] at hcur
  injection hcur with hcur
  injection hcur with _ hcur _
  exact ht hcur
set_option maxRecDepth 10000 in
set_option maxHeartbeats 2000000 in
theorem record_any (w : World) (x : OV) (hx : OVok x) : Calls Tryz.prog 15 #[x.val] w (RecTo w (opRec x) (opIs x)) := by
  obtain ⟨k, i, a, b, v⟩ := x
  obtain ⟨hi, ha, hb⟩ := hx
  have hfit := opRec_fit ⟨k, i, a, b, v⟩
  unfold OV.val
  simp only at hi ha hb ⊢
  have hn1 := fun X => names_any X a ha
  have hn2 := fun X => names_any X (a &&& b) (and_lt a b ha)
  have hab := andB a b ha hb
  have HL : Hid ((namesTo (a &&& b) 6).length ≤ 6) := namesTo_len _ 6
  have hrec : Hid (opRec ⟨k, i, a, b, v⟩ = if k = 2 then ⟨2, idn i, [], []⟩ else ⟨1, idn i, opPrs (a &&& b) v, namesTo a 6⟩) := rfl
  have his : Hid (opIs ⟨k, i, a, b, v⟩ = (decide (k = 2) || (decide (k = 1) && decide (0 < (opPrs (a &&& b) v).length)))) := rfl
  generalize hq : a &&& b = q at hn2 hab HL hrec his
  generalize opRec ⟨k, i, a, b, v⟩ = R at hrec hfit ⊢
  generalize opIs ⟨k, i, a, b, v⟩ = Bz at his ⊢
  have h15 : bits .and .u64 ((i : Int) / 4) 15 = ((i / 4 % 16 : Nat) : Int) := by
    have := u64_and_nat (i / 4) 15 (by omega) (by decide)
    rw [show i / 4 &&& 15 = i / 4 % 16 from Nat.and_two_pow_sub_one_eq_mod _ 4] at this
    rw [show ((i : Int) / 4) = ((i / 4 : Nat) : Int) by omega]
    exact this
  have h3 : bits .and .u64 (i : Int) 3 = ((i % 4 : Nat) : Int) := by
    have := u64_and_nat i 3 hi (by decide)
    rw [show i &&& 3 = i % 4 from Nat.and_two_pow_sub_one_eq_mod _ 2] at this
    exact this
  obtain ⟨qq, hqq⟩ : ∃ q : Int, q = ((i / 4 % 16 : Nat) : Int) := ⟨_, rfl⟩
  obtain ⟨rr, hrr⟩ : ∃ r : Int, r = ((i % 4 : Nat) : Int) := ⟨_, rfl⟩
  rw [← hqq] at h15
  rw [← hrr] at h3
  have hq0 : 0 ≤ qq := by omega
  have hq1 : qq < 16 := by omega
  have hr0 : 0 ≤ rr := by omega
  have hr1 : rr < 4 := by omega
  have HI : Hid (((idn i : Nat) : Int) = 65536 * (1 + qq) + rr) := (show _ = _ by unfold idn; omega)
  clear hqq hrr hq
  obtain ⟨W, hW⟩ : ∃ W, W = (w.alloc (.cells #[.int .i64 k, .int .u64 ((i : Nat) : Int), .int .u8 ((a : Nat) : Int), .int .u8 ((b : Nat) : Int), .string v] 50)).alloc (.cells #[.int .i64 0, .int .u64 0, .slice none 0 0, .slice none 0 0] 47) := ⟨_, rfl⟩
  have HW : Hid (Keeps no w W ∧ W.heap[w.heap.size]? = some (.cells #[.int .i64 k, .int .u64 ((i : Nat) : Int), .int .u8 ((a : Nat) : Int), .int .u8 ((b : Nat) : Int), .string v] 50 (0, 0)) ∧ W.heap[w.heap.size + 1]? = some (.cells #[.int .i64 0, .int .u64 0, .slice none 0 0, .slice none 0 0] 47 (0, 0))) := by
    rw [hW]
    exact ⟨((Keeps.refl no w).alloc _).alloc _, (two_newN w _ _).1, (two_newN w _ _).2⟩
  by_cases hk2 : k = 2
  · subst hk2
    have HR : Hid (R = ⟨2, idn i, [], []⟩ ∧ Bz = true) := ⟨by rw [hrec.out]; rfl, by rw [his.out]; simp⟩
    clear hrec his
    go_enter Tryz.func15, Tryz.ntmps15
    go_wp2_with fail
    have hb2 := (two_newN w (.cells #[.int .i64 2, .int .u64 ((i : Nat) : Int), .int .u8 ((a : Nat) : Int), .int .u8 ((b : Nat) : Int), .string v] 50) (.cells #[.int .i64 2, .int .u64 (65536 * (1 + qq) + rr), .slice none 0 0, .slice none 0 0] 47)).2
    refine bodyPost_ret (results_row2 rfl _ _ (w.heap.size + 1) _ rfl (loadR hb2)) rfl ?_
    rw [HR.out.2, HR.out.1]
    rw [HR.out.1] at hfit
    exact ⟨⟨2, idn i, none, 0, 0, none, 0, 0⟩, by rw [HI.out]; rfl, ⟨rfl, rfl, rfl, rfl, own_nil _, own_nil _, new_none _, new_none _, hfit⟩, ((Keeps.refl no w).alloc _).alloc _⟩
  · have HR : Hid (R = ⟨1, idn i, opPrs q v, namesTo a 6⟩ ∧ Bz = (decide (k = 1) && decide (0 < (opPrs q v).length))) := ⟨by rw [hrec.out, if_neg hk2], by rw [his.out, decide_eq_false hk2]; rfl⟩
    have hk2' : (k == 2) = false := by simpa using hk2
    clear hrec his hk2
    obtain ⟨ii, hii⟩ : ∃ ii : Int, ii = 65536 * (1 + qq) + rr := ⟨_, rfl⟩
    have HII : Hid (ii = ((idn i : Nat) : Int)) := by show _ = _; rw [hii, HI.out]
    go_enter Tryz.func15, Tryz.ntmps15
    go_wp2_with fail
    rw [← hW, ← hii]
    clear hii hW HI h15 h3 hq0 hq1 hr0 hr1
    refine (hn1 W).mono ?_
    rintro e w1 ⟨v1, rfl, o1, n1, c1, rfl, hm1, ho1, hw1, hk1⟩
    obtain ⟨B, hB⟩ : ∃ B, B = w.heap.size := ⟨_, rfl⟩
    have HB : Hid (B = w.heap.size) := hB
    rw [← hB] at HW ⊢
    clear hB
    have H1 : Hid (Keeps no w w1 ∧ w1.heap[B]? = some (.cells #[.int .i64 k, .int .u64 ((i : Nat) : Int), .int .u8 ((a : Nat) : Int), .int .u8 ((b : Nat) : Int), .string v] 50 (0, 0)) ∧ w1.heap[B + 1]? = some (.cells #[.int .i64 0, .int .u64 0, .slice none 0 0, .slice none 0 0] 47 (0, 0)) ∧ n1 = (namesTo a 6).length ∧ Own TE w1 o1 c1 (namesTo a 6) ∧ New w o1) := ⟨HW.out.1.trans hk1, hk1.at HW.out.2.1 id, hk1.at HW.out.2.2 id, hm1.out, ho1, hw1.of_le HW.out.1.size⟩
    have d2 := cell_of_blk H1.out.2.1 2
    have d3 := cell_of_blk H1.out.2.1 3
    simp at d2 d3
    clear hm1 ho1 hw1 hk1 HW hn1
    go_wp2_with fail
    refine (hn2 w1).mono ?_
    rintro e w2 ⟨v2, rfl, o2, n2, c2, rfl, hm2, ho2, hw2, hk2⟩
    have H2 : Hid (Keeps no w w2 ∧ w2.heap[B]? = some (.cells #[.int .i64 k, .int .u64 ((i : Nat) : Int), .int .u8 ((a : Nat) : Int), .int .u8 ((b : Nat) : Int), .string v] 50 (0, 0)) ∧ w2.heap[B + 1]? = some (.cells #[.int .i64 0, .int .u64 0, .slice none 0 0, .slice none 0 0] 47 (0, 0)) ∧ Own TE w2 o1 c1 (namesTo a 6) ∧ Own TE w2 o2 c2 (namesTo q 6) ∧ Keeps no w1 w2) := ⟨H1.out.1.trans hk2, hk2.at H1.out.2.1 id, hk2.at H1.out.2.2.1 id, H1.out.2.2.2.2.1.keepsN hk2, ho2, hk2⟩
    have HN2 : Hid (n2 = (namesTo q 6).length ∧ n2 ≤ 6) := ⟨hm2.out, by rw [hm2.out]; exact HL.out⟩
    have hn6 : n2 ≤ 6 := HN2.out.2
    clear hm2 ho2 hw2 hk2 hn2 d2 d3 hab
    go_wp2_with fail
    go_loopw [7, 8] (fun s6 s7 wr => ∃ (j : Nat) (x : Value), j ≤ n2 ∧ s7 = .int .i64 j ∧ s6 = x ∧ Hid (∃ o n c, x = .slice o n c ∧ n = ((opPrs q v).take j).length ∧ Own PE wr o c ((opPrs q v).take j) ∧ New w2 o ∧ Keeps no w2 wr)) (fun _ s7 _ => n2 - (intOf s7).toNat)
    case atStart => exact ⟨0, _, by omega, rfl, rfl, none, 0, 0, rfl, rfl, own_nil _, new_none _, Keeps.refl _ _⟩
    case round =>
      obtain ⟨j, x, hj, rfl, rfl, HG⟩ := hrel
      obtain ⟨o, n, c, rfl, hn, ho, hnw, hkp⟩ := HG.out
      have HD : Hid (n = ((opPrs q v).take j).length ∧ Own PE wr o c ((opPrs q v).take j) ∧ New w2 o ∧ Keeps no w2 wr) := ⟨hn, ho, hnw, hkp⟩
      clear HG hn ho hnw hkp
      by_cases hlt : j < n2
      · have hlt' : (j : Int) < n2 := by omega
        have hjl : j < (namesTo q 6).length := by rw [← HN2.out.1]; exact hlt
        obtain ⟨bb, off, rfl, f1⟩ := (H2.out.2.2.2.2.1.keepsN HD.out.2.2.2).sl.at hjl
        obtain ⟨y, hy⟩ : ∃ y, y = (namesTo q 6).getD j e0 := ⟨_, rfl⟩
        rw [← hy] at f1
        have g4 : wr.cell? ⟨B, 4, none⟩ = some (.string v) := cell_of_blk (HD.out.2.2.2.at H2.out.2.1 id) 4
        have hst : (opPrs q v).take (j + 1) = (opPrs q v).take j ++ [(y, cutV v)] := by
          rw [take_succ_getD _ j p0 (by rw [opPrs_len]; exact hjl)]
          congr 2
          unfold opPrs
          rw [hy, getD_in (by simpa using hjl), getD_in hjl]
          simp
        have HT : Hid ((opPrs q v).take (j + 1) = (opPrs q v).take j ++ [(y, cutV v)]) := hst
        have hpl : ((opPrs q v).take j).length ≤ 6 := Nat.le_trans (List.length_take_le _ _) (by omega)
        have HBD : Hid ((((opPrs q v).take j).length + [(y, cutV v)].length) * PE.nb ≤ 140737488355328 ∧ ((opPrs q v).take j).length + [(y, cutV v)].length ≤ 140737488355328) := ⟨by simp [PE]; simp at hpl; omega, by simp; simp at hpl; omega⟩
        have hbB := HD.out.2.2.2.at H2.out.2.1 id
        have hbT := H2.out.2.2.2.2.1.keepsN HD.out.2.2.2
        have HO0 : Hid (Own PE (wr.drew.alloc (.cells #[.string y, .string (cutV v)] 85)) o c ((opPrs q v).take j)) := (HD.out.2.1.keepsN (Keeps.refl no wr).drew).keepsN ((Keeps.refl no _).alloc _)
        have HR0 : Hid (Row PE (wr.drew.alloc (.cells #[.string y, .string (cutV v)] 85)) (some ⟨wr.heap.size, 0, none⟩) [(y, cutV v)]) := (own_oneP wr.drew y (cutV v)).row
        have HST : Hid (∀ X, Keeps no wr X → X.cell? ⟨bb, off + j, none⟩ = some (.string y) ∧ X.cell? ⟨B, 4, none⟩ = some (.string v)) := fun X hX => ⟨hX.cellN f1, hX.cellN g4⟩
        have HAL : Hid (Keeps no wr (wr.drew.alloc (.cells #[.string y, .string (cutV v)] 85))) := ((Keeps.refl no wr).drew).alloc _
        have HAP : Hid (∀ o3 w3, Ap (wr.drew.alloc (.cells #[.string y, .string (cutV v)] 85)) o o3 w3 → w3.cell? ⟨bb, off + j, none⟩ = some (.string y) ∧ w3.cell? ⟨B, 4, none⟩ = some (.string v)) := fun o3 w3 hap => by
          have hn2 : ¬ inO o bb := fun hc => by
            obtain ⟨c1, h1⟩ := HO0.out.tag bb hc
            obtain ⟨c2, h2⟩ := (hbT.keepsN HAL.out).tag bb ⟨_, rfl, rfl⟩
            rw [h1] at h2
            injection h2 with h2
            injection h2 with _ h2 _
            exact oT_pne h2
          have hnB : ¬ inO o B := own_not HO0.out (HAL.out.at hbB id) (by decide)
          have hK := hap.keeps.1
          exact ⟨hK.cell (HAL.out.cellN f1) hn2, hK.cell (HAL.out.cellN g4) hnB⟩
        have hm1 : (0 : Int) ≤ min (v.size : Int) 300 := by omega
        have hm2 : min (v.size : Int) 300 ≤ (v.size : Int) := by omega
        clear hy hst hpl hbB hbT
        go_upto_region 10 with fail
        go_region_held_law (fun X => X.cell? ⟨bb, off + j, none⟩ = some (.string y) ∧ X.cell? ⟨B, 4, none⟩ = some (.string v)) (first | exact HST.out _ (Keeps.refl no _) | exact HST.out _ ((Keeps.refl no _).drew) | exact HST.out _ HAL.out | exact HCS.out) (first
          | (refine step_app1 okP rfl (.tmp 39) (.tmp 52) rfl o n c ((opPrs q v).take j) rfl HD.out.1 HO0.out (some (Addr.mk wr.heap.size 0 none)) 1 1 [(y, cutV v)] rfl rfl (fun e => by cases e) HR0.out HBD.out.1 HBD.out.2 ?_; intro o3 c3 w3 ho3 hap3; have HCS : Hid (w3.cell? ⟨bb, off + j, none⟩ = some (.string y) ∧ w3.cell? ⟨B, 4, none⟩ = some (.string v)) := HAP.out o3 w3 hap3; have H9 : Hid (Own PE w3 o3 c3 ((opPrs q v).take j ++ [(y, cutV v)]) ∧ Ap (wr.drew.alloc (.cells #[.string y, .string (cutV v)] 85)) o o3 w3) := ⟨ho3, hap3⟩; clear ho3 hap3))
        all_goals (try (rename _ ∧ _ => hh; clear hh))
        go_wp2_with fail
        go_roundw
        case rel =>
          have hnn := H9.out.2.new HD.out.2.2.1 (HD.out.2.2.2.trans HAL.out)
          refine ⟨j + 1, _, by omega, by go_num, rfl, o3, _, c3, rfl, ?_, ?_, hnn.1, hnn.2⟩
          · rw [HT.out, List.length_append, ← HD.out.1]; rfl
          · rw [HT.out]; exact H9.out.1
        case measure => simp [intOf]; omega
      · have hlt' : ¬ (j : Int) < n2 := by omega
        have hjn : j = n2 := by omega
        have HTK : Hid ((opPrs q v).take j = opPrs q v) := List.take_of_length_le (by rw [opPrs_len, ← HN2.out.1]; omega)
        rw [HTK.out] at HD
        have x0 := cell_of_blk (HD.out.2.2.2.at H2.out.2.1 id) 0
        have hA := HD.out.2.2.2.at H2.out.2.2.1 id
        have a0 := cell_of_blk hA 0
        have a1 := cell_of_blk hA 1
        have a2 := cell_of_blk hA 2
        have a3 := cell_of_blk hA 3
        have f0 := frozen_of_blk hA 0
        have f1 := frozen_of_blk hA 1
        have f2 := frozen_of_blk hA 2
        have f3 := frozen_of_blk hA 3
        have HA : Hid (wr.heap[B + 1]? = some (.cells #[.int .i64 0, .int .u64 0, .slice none 0 0, .slice none 0 0] 47 (0, 0))) := hA
        have hnc : (n : Int) ≤ 6 := by have := HD.out.1; rw [opPrs_len, ← HN2.out.1] at this; omega
        obtain ⟨bk, hbk⟩ : ∃ bk, (k == 1) = bk := ⟨_, rfl⟩
        have HBk : Hid (decide (k = 1) = bk) := by
          show _ = _
          rw [← hbk]
          by_cases e : k = 1
          · simp [e]
          · rw [decide_eq_false e]; exact (beq_eq_false_iff_ne.2 e).symm
        have HBn : Hid (decide (0 < (opPrs q v).length) = decide (0 < n)) := by show _ = _; rw [← HD.out.1]
        have hfit2 : Hid (FitR ⟨1, idn i, opPrs q v, namesTo a 6⟩) := by rw [← HR.out.1]; exact hfit
        have HRR : Hid (R = ⟨1, idn i, opPrs q v, namesTo a 6⟩ ∧ Bz = (bk && decide (0 < n))) := ⟨HR.out.1, by rw [HR.out.2, HBk.out, HBn.out]⟩
        clear hA hjn HTK HR hfit HBk HBn
        have hs4 := set4W HA.out (.int .i64 1) (.int .u64 ii) (.slice o n c) (.slice o1 n1 c1)
        have HS4 : Hid (_ ∧ _) := hs4
        have HG : Hid (∀ X, Keeps (eqA (B + 1)) wr X → Got w X ⟨1, idn i, o, n, c, o1, n1, c1⟩ ⟨1, idn i, opPrs q v, namesTo a 6⟩ ∧ Keeps no w X) := fun X hX => by
          have e1 : ∀ b, inO o b → ¬ eqA (B + 1) b := fun b hb e => own_not HD.out.2.1 HA.out (by decide) (by have : b = B + 1 := e; rw [← this]; exact hb)
          have hO1 := H2.out.2.2.2.1.keepsN HD.out.2.2.2
          have e2 : ∀ b, inO o1 b → ¬ eqA (B + 1) b := fun b hb e => own_not hO1 HA.out (by decide) (by have : b = B + 1 := e; rw [← this]; exact hb)
          exact ⟨⟨rfl, rfl, HD.out.1, H1.out.2.2.2.1, HD.out.2.1.keeps hX e1, hO1.keeps hX e2, HD.out.2.2.1.of_le H2.out.1.size, H1.out.2.2.2.2.2, hfit2.out⟩, (H2.out.1.trans HD.out.2.2.2).then hX (fun b hb => .inr (by have : b = B + 1 := hb; have := HB.out; omega))⟩
        clear hs4
        cases bk with
        | true =>
          go_wp2_with fail
          refine bodyPost_ret (results_row2 rfl _ _ (B + 1) _ rfl (loadR HS4.out.1)) rfl ?_
          rw [HRR.out.1, HRR.out.2]
          have hg := HG.out _ HS4.out.2
          exact ⟨⟨1, idn i, o, n, c, o1, n1, c1⟩, by rw [HII.out]; rfl, hg.1, hg.2⟩
        | false =>
          go_wp2_with fail
          refine bodyPost_ret (results_row2 rfl _ _ (B + 1) _ rfl (loadR HS4.out.1)) rfl ?_
          rw [HRR.out.1, HRR.out.2]
          have hg := HG.out _ HS4.out.2
          exact ⟨⟨1, idn i, o, n, c, o1, n1, c1⟩, by rw [HII.out]; rfl, hg.1, hg.2⟩
end Go.Proofs.YtdemoghlibnooaaGreatDoor
