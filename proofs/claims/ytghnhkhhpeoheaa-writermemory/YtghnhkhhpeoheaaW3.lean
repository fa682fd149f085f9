/- begun. -/
import Derived.Test.YtghnhkhhpeoheaaW2
import Derived.Laws.BitsAllLaws
namespace Go.Proofs.Ytghnhkhhpeoheaa
open Go.RowKit Go.Sort Orl
set_option linter.unusedVariables false
set_option linter.unusedSimpArgs false

theorem i64_and63 (n : Int) : bits .and .i64 n 63 = n % 64 := by
  have h1 : (BitVec.ofInt 64 63).toNat = 2 ^ 6 - 1 := by decide
  have key : (BitVec.ofInt 64 n &&& BitVec.ofInt 64 63).toNat = (n % ((2 ^ 64 : Nat) : Int)).toNat % 2 ^ 6 := by
    rw [BitVec.toNat_and, BitVec.toNat_ofInt, h1, Nat.and_two_pow_sub_one_eq_mod]
  show IntKind.i64.wrap ((BitVec.ofInt 64 n &&& BitVec.ofInt 64 63).toNat : Nat) = n % 64
  rw [key, IntKind.wrap_i64]
  omega
def idN (id : Nat) : Nat := id ||| 65536
theorem idN_lo (id : Nat) : 65536 ≤ idN id := Nat.right_le_or
theorem idN_hi {id : Nat} (h : id < 18446744073709551616) : idN id < 18446744073709551616 := Nat.or_lt_two_pow (n := 64) h (by decide)
def prN (parts : Int) : Nat := (parts % 64).toNat + 1
theorem prN_le (parts : Int) : 1 ≤ prN parts ∧ prN parts ≤ 64 := by unfold prN; omega
/-- a writer that has begun, what it told -/
structure Bgn (w0 w : World) (p cp : Nat) (s : WS) (m : Nat) (F : Nat → Prop) (o : Option Addr) (n c : Nat) (rs : List RQ) : Prop where
  wc : Wc w0 w p cp s m F
  n : n = s.ps.length
  tq : Tq w o c rs (askedS s)
  apart : ∀ i, TB o rs (askedS s).length i → ¬ (F i ∨ i = cp)
  new : ∀ i, TB o rs (askedS s).length i → w0.heap.size ≤ i
def BgnTo (w0 : World) (cp id : Nat) (parts : Int) (l : List Pr) (m : Nat) (e : Ending) (w' : World) : Prop := ∃ p o n c rs F, e = .returned (.tuple #[.pointer (some ⟨p, 0, none⟩), .slice o n c]) ∧ Bgn w0 w' p cp (askS (startS (idN id) l (prN parts)) m) (numS (startS (idN id) l (prN parts)) m) F o n c rs
set_option maxRecDepth 10000 in
set_option maxHeartbeats 1000000 in
theorem begun_any (w0 w : World) (o : Option Addr) (n c : Nat) (l : List Pr) (id : Nat) (parts : Int) (cp m : Nat) (hn : n = l.length) (hg : GoodP l) (hl : 1 ≤ l.length) (hs : Sl PE w o c l) (hid : id < 18446744073709551616) (hc : IsCt w cp m) (hm : m < 18446744073709551616) (hcn : w0.heap.size ≤ cp) (hk : Keeps no w0 w) :
    Calls Try.prog 9 #[.slice o n c, .int .u64 (id : Nat), .int .i64 parts, .pointer (some ⟨cp, 0, none⟩)] w (BgnTo w0 cp id parts l m) := by
  have hor : bits .or .u64 ((id : Nat) : Int) 65536 = ((idN id : Nat) : Int) := u64_or_nat id 65536 hid (by decide)
  have hand : bits .and .i64 parts 63 = ((prN parts : Nat) : Int) - 1 := by rw [i64_and63]; unfold prN; omega
  have hP := prN_le parts
  have HNW : Hid (Calls Try.prog 20 #[.slice o n c, .int .u64 ((idN id : Nat) : Int), .int .i64 ((prN parts : Nat) : Int), fnC cp] w (NewTo w l (idN id) (prN parts : Nat) cp)) := wNew_any w o n c l (idN id) (prN parts : Nat) cp hn (by have := hg.len; omega) (fun p hp => by have := hg.size p hp; unfold maxLen; omega) hs (idN_hi hid) (by omega)
  have HWF : Hid (WfS (startS (idN id) l (prN parts))) := start_wf (idN_lo id) (idN_hi hid) hl (by have := hg.len; omega) hP.1 hP.2
  have HV : Hid (valP l = true ∧ 65536 ≤ idN id ∧ IsCt w cp m ∧ m < 18446744073709551616 ∧ w0.heap.size ≤ cp ∧ Keeps no w0 w) := ⟨hg.val hl, idN_lo id, hc, hm, hcn, hk⟩
  have hpi : ((prN parts : Nat) : Int).toNat = prN parts := by omega
  have HPI : Hid ((1 : Int) ≤ (prN parts : Nat) ∧ ((prN parts : Nat) : Int) ≤ 64 ∧ ((prN parts : Nat) : Int).toNat = prN parts) := ⟨by omega, by omega, hpi⟩
  have hP2 : (1 : Int) ≤ (prN parts : Nat) ∧ ((prN parts : Nat) : Int) ≤ 64 := by omega
  unfold BgnTo
  unfold fnC at HNW
  generalize idN id = I at *
  generalize prN parts = P at *
  have hadd : (1 : Int) + ((P : Int) - 1) = (P : Int) := by omega
  clear hn hg hl hs hc hm hcn hk hP hpi
  obtain ⟨hP3, hP4⟩ := hP2
  go_enter Try.func9, Try.ntmps9
  go_wp2_with fail
  refine Calls.mono HNW.out ?_
  intro e w1 hnt
  obtain ⟨p, F, rfl, hi, hF, hk1⟩ := hnt.2.2 ⟨HPI.out.1, HPI.out.2.1, HV.out.2.1⟩ HV.out.1
  rw [HPI.out.2.2] at hi
  have HW1 : Hid (Wc w0 w1 p cp (startS I l P) m F) := by
    have hlt := lt_of_block HV.out.2.2.1
    refine ⟨hi, HWF.out, HV.out.2.2.1.keeps hk1 (fun h => h), HV.out.2.2.2.1, fun h => ?_, ?_, HV.out.2.2.2.2.2.trans hk1⟩
    · have := hF cp h; omega
    · rintro i (h | rfl)
      · exact Nat.le_trans HV.out.2.2.2.2.2.size (hF i h)
      · exact HV.out.2.2.2.2.1
  clear hnt hi hF hk1 HNW
  have HB : Hid (Calls Try.prog 15 #[.pointer (some ⟨p, 0, none⟩)] w1 (TellTo w1 p cp F (beginS (startS I l P) m))) := wBegin_any w1 p cp F _ m HW1.out.is HW1.out.wf HW1.out.ct HW1.out.lt HW1.out.cF
  go_wp2_with fail
  refine Calls.mono HB.out ?_
  rintro e w2 ⟨o2, n2, c2, rs, G, rfl, ht⟩
  have hbs : beginS (startS I l P) m = ⟨askS (startS I l P) m, askedS (askS (startS I l P) m), numS (startS I l P) m⟩ := by
    unfold beginS
    rw [if_pos ⟨rfl, rfl⟩]
  rw [hbs] at ht
  have HT : Hid (Bgn w0 w2 p cp (askS (startS I l P) m) (numS (startS I l P) m) G o2 n2 c2 rs) := by
    have hwf := HW1.out.wf.ask m (by show 0 ≤ 1; omega)
    have hw := HW1.out.tell ht hwf (num_lt _ _)
    refine ⟨hw, ?_, ht.tq, ?_, fun i hi => Nat.le_trans HW1.out.kp.size (ht.new i hi)⟩
    · have := ht.n
      rw [this]
      exact asked_len _
    · rintro i hi (h | rfl)
      · exact ht.apart i hi h
      · have h1 := ht.new _ hi
        have h2 := lt_of_block HW1.out.ct
        omega
  clear ht hbs HB
  go_wp2_with fail
  go_ret2
  exact ⟨p, o2, n2, c2, rs, G, rfl, HT.out⟩
end Go.Proofs.Ytghnhkhhpeoheaa
