import Derived.Test.YtdemoghlibnooaaGreatDoorXP
import Derived.Test.YtdemoghlibnooaaGreatDoorG1
import Derived.Test.YtdemoghlibnooaaGreatDoorNG
import Derived.Test.YtdemoghlibnooaaGreatDoorShelk
import Derived.Laws.Concat
/- boot: Log, what the log goes on from, the sweep. -/
namespace Go.Proofs.YtdemoghlibnooaaGreatDoor
open Go.RowKit Go.Maps Go.Sort Orl Pk
set_option linter.unusedVariables false
set_option linter.unusedSimpArgs false

theorem gPow : Tryz.prog.globalNamed "internal/strconv.uint64pow10" = some 1 := by kernel_rfl
def PowIn (w : World) : Prop := Lib.TabIs Tryz.prog w "internal/strconv.uint64pow10" .u64 Lib.pow10Tab
theorem PowIn.lt {w : World} (h : PowIn w) : 1 < w.heap.size := by
  unfold PowIn Lib.TabIs World.var? at h
  rw [gPow] at h
  simp only [Option.bind_some] at h
  rcases Nat.lt_or_ge 1 w.heap.size with h' | h'
  · exact h'
  · rw [Array.getElem?_eq_none h'] at h; cases h
theorem PowIn.keeps {S : Nat → Prop} {w w' : World} (h : PowIn w) (hk : Keeps S w w') (h0 : ¬ S 1) : PowIn w' := by
  have hl := h.lt
  unfold PowIn Lib.TabIs World.var? at h ⊢
  rw [gPow] at h ⊢
  simp only [Option.bind_some] at h ⊢
  rw [hk.block _ hl h0]
  exact h
theorem PowIn.keepsN {w w' : World} (h : PowIn w) (hk : Keeps no w w') : PowIn w' := h.keeps hk (fun h => h)
theorem keeps_growK (w : World) (k : Nat) (os : Array Obj) : Keeps no w (Sort.grow (w.drewN k) os) := by
  refine ⟨rfl, rfl, rfl, by simp [Sort.grow, World.drewN], fun i hi _ => ?_⟩
  simp [Sort.grow, World.drewN, Array.getElem?_append, hi]
/-- both tables -/
structure Tabs (w : World) : Prop where
  crc : TabIn w
  pow : PowIn w
theorem Tabs.keepsN {w w' : World} (h : Tabs w) (hk : Keeps no w w') : Tabs w' := ⟨h.crc.keepsN hk, h.pow.keepsN hk⟩
theorem Tabs.keeps {S : Nat → Prop} {w w' : World} (h : Tabs w) (hk : Keeps S w w') (h1 : ¬ S 2) (h2 : ¬ S 1) : Tabs w' := ⟨h.crc.keeps hk h1, h.pow.keeps hk h2⟩

theorem log_any (w : World) (ht : PowIn w) (g : Int) (h0 : -9223372036854775808 ≤ g) (h1 : g ≤ 9223372036854775807) :
    Calls Tryz.prog 49 #[.int .i64 g] w fun e w' => e = .returned (.string (logN g)) ∧ Keeps no w w' := by
  have hl : (Lib.itoa g).length ≤ 21 := Lib.itoa_length_le g h0 h1
  have HK := fun (k : Nat) (os : Array Obj) => keeps_growK w k os
  have hadd : ∀ W : World, (Op.stringOp .add (⟨#[108, 111, 103, 46]⟩ : ByteArray) ⟨(Lib.itoa g).toArray⟩).run Tryz.prog W = .ok (.string (logN g)) W := fun W => by
    have := run_string_add_lists (P := Tryz.prog) (w := W) stemB (Lib.itoa g) (by simp [stemB]) (by omega)
    exact this
  go_enter Tryz.func49, Tryz.ntmps49
  go_wp2_with (go_at_call 100; refine (Any.strconv_FormatInt_10 Tryz.laysFormat g h0 h1 _ ht).mono ?_; rintro e w1 ⟨rfl, k, os, rfl⟩)
  go_ret
  exact ⟨rfl, HK k os⟩

/-- Contains -/
theorem contains_any (w : World) (a : Option Addr) (n c : Nat) (xs : List Tx) (s : Tx) (hn : n = xs.length) (hs : Sl TE w a c xs) (hb : (n : Int) ≤ 8796093022000) :
    Calls Tryz.prog 98 #[.slice a n c, .string s] w fun e w' => e = .returned (.bool (inn xs s)) ∧ w' = w := by
  have hI := index_any w a n c xs s hn hs hb
  clear hn hs hb
  by_cases hm : s ∈ xs
  · rw [(inn_iff xs s).2 hm]
    have hI' : Calls Tryz.prog 141 #[.slice a n c, .string s] w fun e w' => ∃ I : Nat, e = .returned (.int .i64 (I : Nat)) ∧ w' = w := by
      refine hI.mono ?_
      rintro e w1 ⟨⟨_, he⟩ | ⟨h, _⟩, hw⟩
      · exact ⟨_, he, hw⟩
      · exact absurd hm h
    clear hI hm
    go_enter Tryz.func98, Tryz.ntmps98
    go_wp2_with (go_at_call 141; refine hI'.mono ?_; rintro e w1 ⟨I, rfl, hw⟩; subst w1)
    go_ret
    exact ⟨rfl, rfl⟩
  · rw [inn_no hm]
    have hI' : Calls Tryz.prog 141 #[.slice a n c, .string s] w fun e w' => e = .returned (.int .i64 (-1)) ∧ w' = w := by
      refine hI.mono ?_
      rintro e w1 ⟨⟨h, _⟩ | ⟨_, he⟩, hw⟩
      · exact absurd h hm
      · exact ⟨he, hw⟩
    clear hI hm
    go_enter Tryz.func98, Tryz.ntmps98
    go_wp2_with (go_at_call 141; refine hI'.mono ?_; rintro e w1 ⟨rfl, hw⟩; subst w1)
    go_ret
    exact ⟨rfl, rfl⟩

/-! ### a store, with what is not its own -/
def Sto (B : Nat) (w : World) (p : Nat) (s : St) (N : Nat) (P : Nat → Prop) : Prop := ∃ T, IsS w p T s N ∧ Ok s ∧ (∀ b, T b ≠ none → B ≤ b) ∧ ∀ b, P b → T b = none ∧ b < w.heap.size
section
variable {B : Nat} {w w' : World} {p : Nat} {s : St} {N : Nat} {P : Nat → Prop}
theorem Sto.ok (h : Sto B w p s N P) : Ok s := by obtain ⟨T, _, h, _⟩ := h; exact h
theorem Sto.le (h : Sto B w p s N P) : B ≤ w.heap.size := by
  obtain ⟨T, ⟨y, hi⟩, _, hB, _⟩ := h
  have h1 : T p ≠ none := by rw [hi.tp]; simp
  have := hB p h1
  have := hi.lt p h1
  omega
theorem Sto.other (h : Sto B w p s N P) {S : Nat → Prop} (hk : Keeps S w w') (hS : ∀ b, S b → b < B ∨ P b) : Sto B w' p s N (fun b => P b ∨ (w.heap.size ≤ b ∧ b < w'.heap.size)) := by
  obtain ⟨T, hi, ho, hB, hP⟩ := h
  refine ⟨T, hi.keeps hk (fun b hb hs => ?_), ho, hB, fun b hb => ?_⟩
  · rcases hS b hs with h1 | h1
    · have := hB b hb; omega
    · exact hb (hP b h1).1
  · rcases hb with h1 | ⟨h1, h2⟩
    · exact ⟨(hP b h1).1, Nat.lt_of_lt_of_le (hP b h1).2 hk.size⟩
    · refine ⟨?_, h2⟩
      cases hT : T b with
      | none => rfl
      | some r => have := hi.lt b (by rw [hT]; simp); omega
theorem Sto.sub (h : Sto B w p s N P) {Q : Nat → Prop} (hQ : ∀ b, Q b → P b) : Sto B w p s N Q := by
  obtain ⟨T, hi, ho, hB, hP⟩ := h
  exact ⟨T, hi, ho, hB, fun b hb => hP b (hQ b hb)⟩
theorem Sto.more (h : Sto B w p s N P) {M : Nat} (hM : N ≤ M) : Sto B w p s M P := by
  obtain ⟨T, hi, ho, hB, hP⟩ := h
  exact ⟨T, hi.more hM, ho, hB, hP⟩
theorem Sto.of {w0 : World} (h : Ow w0 w p s N P) : Sto w0.heap.size w p s N P := by
  obtain ⟨T, hs, hP⟩ := h
  exact ⟨T, hs.is, hs.ok, hs.new, fun b hb => ⟨(hP b hb).1, (hP b hb).2.2⟩⟩
theorem Sto.put (h : Sto B w p s N P) (i : Nat) (ps : List Pr) (keys : List Tx) (now : Int) (ap : Option Addr) (np cp : Nat) (ak : Option Addr) (nk ck : Nat) (hi : i < 18446744073709551616) (hnp : np = ps.length) (hnk : nk = keys.length) (hsp : Sl PE w ap cp ps) (hsk : Sl TE w ak ck keys) (hlp : ps.length ≤ 100000) (hok : okPut i ps keys now = true) (hN : N ≤ 900000000) :
    Calls Tryz.prog 42 #[.pointer (some ⟨p, 0, none⟩), .int .u64 ((i : Nat) : Int), .slice ap np cp, .slice ak nk ck, .int .i64 now] w fun e w' => (∃ B : Bool, e = .returned (.tuple #[.bool B, .int .i64 0])) ∧ Hid (Sto B w' p (putAll i keys now s (miss s i ps)) (N + ps.length) P ∧ Keeps (fun b => B ≤ b ∧ ¬ P b) w w') := by
  have hBle := h.le
  obtain ⟨T, his, ho, hB, hP⟩ := h
  have hlk : keys.length ≤ 140737488355328 := by
    unfold okPut at hok
    simp only [Bool.and_eq_true] at hok
    have := (okKeys_iff.1 hok.2.1).1.2
    omega
  refine (put_good w p T s N i ps keys now ap np cp ak nk ck his hi hnp hnk hlp hlk hsp hsk hok hN).mono ?_
  rintro e w' ⟨rfl, T', hi', hT, hk⟩
  have hle : (miss s i ps).length ≤ ps.length := List.length_filter_le _ _
  refine ⟨⟨_, rfl⟩, ⟨T', hi'.more (by omega), ok_put ho hi hok, fun b hb => ?_, fun b hb => ⟨?_, Nat.lt_of_lt_of_le (hP b hb).2 hk.size⟩⟩, hk.mono fun b hb => ⟨hB b hb.1, fun hp => hb.1 (hP b hp).1⟩⟩
  · by_cases hlt : b < w.heap.size
    · rw [hT b hlt] at hb; exact hB b hb
    · omega
  · rw [hT b (hP b hb).2]; exact (hP b hb).1
theorem Sto.commit (h : Sto B w p s N P) (i : Nat) (now : Int) (hi : i < 18446744073709551616) (hi2 : 65536 ≤ i) (ht : tickB now = true) (hN : N ≤ 2000000000000) :
    Calls Tryz.prog 43 #[.pointer (some ⟨p, 0, none⟩), .int .u64 ((i : Nat) : Int), .int .i64 now] w fun e w' => (∃ n : Nat, e = .returned (.tuple #[.int .i64 ((n : Nat) : Int), .int .i64 0])) ∧ Hid (Sto B w' p (commitS s i now) N P ∧ Keeps (fun b => B ≤ b ∧ ¬ P b) w w') := by
  obtain ⟨T, his, ho, hB, hP⟩ := h
  refine (commit_good w p T s N i now his ho hi hi2 ht hN).mono ?_
  rintro e w' ⟨n, rfl, _, hi', hk⟩
  exact ⟨⟨n, rfl⟩, ⟨T, hi', ok_commit ho ht, hB, fun b hb => ⟨(hP b hb).1, Nat.lt_of_lt_of_le (hP b hb).2 hk.size⟩⟩, hk.mono fun b hb => ⟨hB b hb.1, fun hp => hb.1 (hP b hp).1⟩⟩
end
theorem sto_new (w : World) : Calls Tryz.prog 8 #[] w fun e w' => ∃ p, e = .returned (.pointer (some ⟨p, 0, none⟩)) ∧ Hid (Sto w.heap.size w' p St.new 0 no ∧ Keeps no w w') := by
  refine (ow_new w).mono ?_
  rintro e w' ⟨p, rfl, h⟩
  exact ⟨p, rfl, Sto.of h.out, h.out.keep⟩

/-! ### the names that a disk lists -/
theorem mkT_snap : mkT snapB = snapN := rfl
theorem mkT_log (g : Int) : mkT (logB g) = logN g := rfl
theorem has_mem (t : Dk.St) : inn ((Dk.names t.fs).map mkT) snapN = hasSnap t := by
  unfold hasSnap
  have h1 : snapN ∈ (Dk.names t.fs).map mkT ↔ snapB ∈ Dk.names t.fs := by
    rw [← mkT_snap, List.mem_map]
    constructor
    · rintro ⟨a, ha, e⟩; rw [mkT_inj.1 e] at ha; exact ha
    · intro h; exact ⟨_, h, rfl⟩
  cases hf : Dk.find snapB t.fs with
  | none =>
    have := Dk.find_none.1 hf
    refine inn_no fun hm => ?_
    obtain ⟨q, hq, e⟩ := List.mem_map.1 (h1.1 hm)
    exact this q hq e
  | some f => exact (inn_iff _ _).2 (h1.2 (List.mem_map.2 ⟨_, Dk.find_mem hf, rfl⟩))
/-- a tick that leaves the power on leaves the files -/
theorem tick_fs {t : Dk.St} (h : (Dk.tick t).off = false) : (Dk.tick t).fs = t.fs ∧ t.off = false := by
  unfold Dk.tick at h ⊢
  split at h
  · rename_i h0
    unfold Dk.crash at h
    split at h
    · rename_i h1; rw [h1] at h; cases h
    · cases h
  · rename_i h0
    split at h
    · rename_i h1
      rw [if_neg h0, if_pos h1]
      exact ⟨rfl, h⟩
    · rename_i h1
      rw [if_neg h0, if_neg h1]
      exact ⟨rfl, h⟩
theorem readE_snap {t : Dk.St} (hs : hasSnap t = true) : Dk.readE snapB (Dk.tick t) = if (Dk.tick t).off = true then 62 else 0 := by
  unfold Dk.readE
  cases h : (Dk.tick t).off with
  | true => rfl
  | false =>
    simp only [Bool.false_eq_true, if_false]
    rw [(tick_fs h).1]
    unfold hasSnap at hs
    cases hf : Dk.find snapB t.fs with
    | none => rw [hf] at hs; cases hs
    | some f => rfl
/-- how many versions a snapshot may have -/
theorem rdVs_len {now : Int} {b : List Nat} (hb : ∀ c ∈ b, c < 256) (h : rdOk now b = true) : 20 * (rdVs (bodyO b)).1.length ≤ b.length := by
  unfold rdOk at h
  simp only [Bool.and_eq_true] at h
  have e := body_read (bodyO_byt hb) h.1
  have l := congrArg List.length e
  rw [snBody_length] at l
  have := layV_le (rdVs (bodyO b)).1
  have : (bodyO b).length ≤ b.length := by unfold bodyO; rw [List.length_take]; omega
  omega

/-- how many versions the snapshot has -/
def baseN (t : Dk.St) : Nat := if hasSnap t = true then (rdVs (bodyO (bsS t))).1.length else 0
theorem baseN_some {t : Dk.St} (h : hasSnap t = true) : (rdVs (bodyO (bsS t))).1.length ≤ baseN t := by
  unfold baseN
  rw [if_pos h]
  exact Nat.le_refl _
def BaseTo (w : World) (p : Nat) (F : Nat → Prop) (t : Dk.St) (now : Int) (e : Ending) (w' : World) : Prop :=
  (baseE now t ≠ 0 ∧ e = .returned (.tuple #[.int .i64 0, .pointer none, .int .i64 (baseE now t)]) ∧ Hid (IsD w' p F (baseD t) ∧ Keeps F w w')) ∨
  (baseE now t = 0 ∧ ∃ q, e = .returned (.tuple #[.int .i64 ((baseG t : Nat) : Int), .pointer (some ⟨q, 0, none⟩), .int .i64 0]) ∧ Hid (∃ N, N ≤ 400000000 ∧ N ≤ baseN t ∧ Sto w.heap.size w' q (baseS now t) N no ∧ IsD w' p F (baseD t) ∧ Keeps F w w'))

set_option maxRecDepth 10000 in
theorem base_any (w : World) (p : Nat) (F : Nat → Prop) (t : Dk.St) (h : IsD w p F t) (a : Option Addr) (n c : Nat) (hn : n = (Dk.names t.fs).length) (hs : Sl TE w a c ((Dk.names t.fs).map mkT)) (now : Int) (hnow : tickB now = true) (ht : TabIn w) (h0 : ¬ F 2) (hb : (Dk.readB snapB (Dk.tick t)).length ≤ 8000000000) :
    Calls Tryz.prog 52 #[.pointer (some ⟨p, 0, none⟩), .slice a n c, .int .i64 now] w (BaseTo w p F t now) := by
  have hlen : (Dk.names t.fs).length ≤ 16 := by have := h.ok.len; unfold Dk.names; rw [List.length_map]; exact this
  have hc := contains_any w a n c ((Dk.names t.fs).map mkT) snapN (by rw [List.length_map]; exact hn) hs (by omega)
  rw [has_mem] at hc
  have HN : Hid (n = (Dk.names t.fs).length) := hn
  have HB : Hid ((Dk.readB snapB (Dk.tick t)).length ≤ 8000000000) := hb
  have HD : Hid (IsD w p F t) := h
  clear hn hlen hb h
  cases hsn : hasSnap t with
  | false =>
    rw [hsn] at hc
    have hE : baseE now t = 0 := by unfold baseE; rw [hsn]; rfl
    go_enter Tryz.func52, Tryz.ntmps52
    go_wp2_with (first | (go_at_call 98; refine hc.mono ?_; rintro e w1 ⟨rfl, hw⟩; subst w1) | (go_at_call 8; refine (sto_new w).mono ?_; rintro e w2 ⟨q, rfl, H2⟩))
    go_ret3
    refine .inr ⟨hE, q, ?_, ⟨0, by omega, by omega, ?_, ?_, ?_⟩⟩
    · unfold baseG; rw [hsn]; rfl
    · unfold baseS; rw [hsn]; exact H2.out.1
    · unfold baseD; rw [hsn]; exact HD.out.keepsN H2.out.2
    · exact H2.out.2.of_no
  | true =>
    rw [hsn] at hc
    have hR := dread_any w p F t snapN HD.out (by unfold maxLen; decide) (by have := HB.out; exact Nat.le_trans this (by decide))
    have hRE := readE_snap hsn
    rw [show snapN.data.toList = snapB from rfl, hRE] at hR
    cases hoff : (Dk.tick t).off with
    | true =>
      rw [hoff] at hR
      have hE : baseE now t = 62 := by unfold baseE; rw [hsn, hoff]; rfl
      go_enter Tryz.func52, Tryz.ntmps52
      go_wp2_with (first | (go_at_call 98; refine hc.mono ?_; rintro e w1 ⟨rfl, hw⟩; subst w1) | (go_at_call 84; refine hR.mono ?_; rintro e w2 ⟨o2, c2, m2, rfl, H2⟩))
      go_ret3
      refine .inl ⟨by rw [hE]; decide, by rw [hE]; rfl, ?_, ?_⟩
      · unfold baseD; rw [hsn]; exact H2.2.2.2.1
      · exact H2.2.2.2.2
    | false =>
      rw [hoff] at hR
      have hRd := fun (W : World) (o2 : Option Addr) (c2 m2 : Nat) (hm : m2 = (Dk.readB snapB (Dk.tick t)).length) (ho : Own BU W o2 c2 (Dk.readB snapB (Dk.tick t))) (htw : TabIn W) => read_any W o2 m2 c2 (bsS t) now (by unfold bsS; rw [nts_length]; exact hm) ⟨(own_U.1 ho).row (nts_lt _) (by rw [nts_length]; have := HB.out; omega), (own_U.1 ho).cap.1, (own_U.1 ho).cap.2⟩ (by unfold bsS; rw [nts_length]; exact Nat.le_trans HB.out (by decide)) htw
      have HRd : Hid (∀ (W : World) (o2 : Option Addr) (c2 m2 : Nat), m2 = (Dk.readB snapB (Dk.tick t)).length → Own BU W o2 c2 (Dk.readB snapB (Dk.tick t)) → TabIn W → Calls Tryz.prog 105 #[.slice o2 m2 c2, .int .i64 now] W fun e w' => RdTo W (bsS t) now e w') := hRd
      clear hRd
      have HT : Hid (TabIn w ∧ ¬ F 2) := ⟨ht, h0⟩
      clear ht h0
      have hb : ∀ c ∈ bsS t, c < 256 := nts_lt _
      go_enter Tryz.func52, Tryz.ntmps52
      go_wp2_with (first | (go_at_call 98; refine hc.mono ?_; rintro e w1 ⟨rfl, hw⟩; subst w1) | (go_at_call 84; refine hR.mono ?_; rintro e w2 ⟨o2, c2, m2, rfl, hm2, H2⟩; have H2 : Hid _ := H2))
      refine (HRd.out w2 o2 c2 m2 hm2.out H2.out.1 (HT.out.1.keeps H2.out.2.2.2 HT.out.2)).mono ?_
      rintro e w3 h3
      have kF : Keeps F w w2 := H2.out.2.2.2
      have hle := kF.size
      rcases h3 with ⟨h1, _⟩ | ⟨_, h1, rfl, hk⟩ | ⟨_, h1, h2, rfl, hk⟩ | ⟨_, h1, h2, q, rfl, hO⟩
      · rw [hnow] at h1; cases h1
      · have hE : baseE now t = 140 := by unfold baseE snOk; rw [hsn, hoff, h1]; rfl
        have hD : Hid (IsD w3 p F (baseD t) ∧ Keeps F w w3) := ⟨by unfold baseD; rw [hsn]; exact H2.out.2.2.1.keepsN hk, kF.trans hk.of_no⟩
        clear hk kF hle
        go_wp2
        go_ret3
        exact .inl ⟨by rw [hE]; decide, by rw [hE]; rfl, hD⟩
      · have hE : baseE now t = 140 := by unfold baseE snOk; rw [hsn, hoff, h1, h2]; rfl
        have hD : Hid (IsD w3 p F (baseD t) ∧ Keeps F w w3) := ⟨by unfold baseD; rw [hsn]; exact H2.out.2.2.1.keepsN hk, kF.trans hk.of_no⟩
        clear hk kF hle
        go_wp2
        go_ret3
        exact .inl ⟨by rw [hE]; decide, by rw [hE]; rfl, hD⟩
      · have hE : baseE now t = 0 := by unfold baseE snOk; rw [hsn, hoff, h1, h2]; rfl
        have hG : baseG t = rdG (bsS t) := by unfold baseG; rw [hsn]; rfl
        have hD : Hid (∃ N, N ≤ 400000000 ∧ N ≤ baseN t ∧ Sto w.heap.size w3 q (baseS now t) N no ∧ IsD w3 p F (baseD t) ∧ Keeps F w w3) := by
          have hk := hO.keep
          refine ⟨(rdVs (bodyO (bsS t))).1.length, ?_, baseN_some hsn, ?_, ?_, kF.trans hk.of_no⟩
          · have := rdVs_len hb h2
            have e : (bsS t).length = (Dk.readB snapB (Dk.tick t)).length := nts_length _
            have := HB.out
            omega
          · unfold baseS
            rw [hsn]
            obtain ⟨T, hi, ho, hB, hP⟩ := Sto.of hO
            exact ⟨T, hi, ho, fun b hb => by have := hB b hb; omega, hP⟩
          · unfold baseD; rw [hsn]; exact H2.out.2.2.1.keepsN hk
        clear hO kF hle
        rw [← hG]
        clear hG
        generalize hg : baseG t = G
        go_wp2
        go_ret3
        rw [← hg]
        exact .inr ⟨hE, q, rfl, hD⟩

def SweepTo (w : World) (p : Nat) (F : Nat → Prop) (R : Dk.St × Int) (e : Ending) (w' : World) : Prop := e = .returned (.int .i64 R.2) ∧ Hid (IsD w' p F R.1 ∧ Keeps F w w')
theorem good_max {n : Dk.Nm} (h : Dk.good n = true) : (mkT n).size ≤ maxLen := by
  unfold Dk.good at h
  simp only [Bool.and_eq_true, decide_eq_true_eq] at h
  have e : (mkT n).size = n.length := by simp [mkT, ByteArray.size]
  rw [e]; unfold maxLen; omega
set_option maxRecDepth 10000 in
theorem sweep_any (w : World) (p : Nat) (F : Nat → Prop) (t : Dk.St) (h : IsD w p F t) (a : Option Addr) (n c : Nat) (l : List Dk.Nm) (hl : ∀ x ∈ l, Dk.good x = true) (hn : n = l.length) (h16 : n ≤ 16) (hs : Sl TE w a c (l.map mkT)) (hF : ∀ k, inO a k → ¬ F k) (g : Dk.Nm) :
    Calls Tryz.prog 53 #[.pointer (some ⟨p, 0, none⟩), .slice a n c, .string (mkT g)] w (SweepTo w p F (sweepS g l t)) := by
  have HN : Hid (n = l.length) := hn
  have HD : Hid (IsD w p F t) := h
  have HF : Hid (∀ k, inO a k → ¬ F k) := hF
  have HL : Hid (∀ x ∈ l, Dk.good x = true) := hl
  have HS : Hid (Sl TE w a c (l.map mkT)) := hs
  obtain ⟨R, hR⟩ : ∃ R, R = sweepS g l t := ⟨_, rfl⟩
  rw [← hR]
  have HR : Hid (R = sweepS g l t) := hR
  clear hn h hF hl hs hR
  go_enter Tryz.func53, Tryz.ntmps53
  go_wp2_with fail
  go_loopw [12] (fun i wr => ∃ k : Nat, k ≤ n ∧ i = .int .i64 k ∧ Hid (∃ u, IsD wr p F u ∧ sweepS g (l.drop k) u = R) ∧ Hid (Keeps F w wr)) (fun i _ => n - (intOf i).toNat)
  case atStart => exact ⟨0, by omega, rfl, ⟨t, HD.out, by rw [HR.out]; rfl⟩, Keeps.refl _ _⟩
  case round =>
    obtain ⟨k, hk, rfl, HU, HK⟩ := hrel
    obtain ⟨u, hu⟩ := HU.out
    have HU' : Hid (IsD wr p F u ∧ sweepS g (l.drop k) u = R) := hu
    clear hu HU
    by_cases h2 : k < n
    · have hks : k < (l.map mkT).length := by rw [List.length_map]; have := HN.out; omega
      have hkl : k < l.length := by have := HN.out; omega
      obtain ⟨b, off, rfl, d1⟩ := (HS.out.keeps HK.out HF.out).at hks
      obtain ⟨x, hx⟩ : ∃ x, x = l.getD k [] := ⟨_, rfl⟩
      have hd : (l.map mkT).getD k e0 = mkT x := by rw [hx]; simp [List.getD, hkl]
      rw [hd] at d1
      have hdrop : l.drop k = x :: l.drop (k + 1) := by
        rw [List.drop_eq_getElem_cons hkl, hx]; simp [List.getD, hkl]
      have hgood : Dk.good x = true := HL.out x (by rw [hx]; simp [List.getD, hkl])
      have HDr : Hid (l.drop k = x :: l.drop (k + 1)) := hdrop
      clear hdrop hx hd hks hkl
      by_cases e1 : x = snapB ∨ x = g
      · have HS2 : Hid (sweepS g (l.drop (k + 1)) u = R) := by
          have := HU'.out.2
          rw [HDr.out] at this
          unfold sweepS at this
          rw [if_pos e1] at this
          exact this
        by_cases e : x = snapB
        · have t1 : ((mkT x).toList == ([115, 110, 97, 112] : List UInt8)) = true := by rw [Lib.toList_data, data_mkT, e]; rfl
          clear e e1
          go_wp2
          go_roundw
          case rel => exact ⟨k + 1, by omega, by go_num, ⟨u, HU'.out.1, HS2.out⟩, HK⟩
          case measure => simp [intOf]; omega
        · have t1 : ((mkT x).toList == ([115, 110, 97, 112] : List UInt8)) = false := by rw [Lib.toList_data, data_mkT, beq_eq_false_iff_ne]; exact e
          have t2 : ((mkT x).toList == (mkT g).toList) = true := by
            rcases e1 with e' | e'
            · exact absurd e' e
            · rw [tx_eq, decide_eq_true_eq, e']
          clear e e1
          go_wp2
          go_roundw
          case rel => exact ⟨k + 1, by omega, by go_num, ⟨u, HU'.out.1, HS2.out⟩, HK⟩
          case measure => simp [intOf]; omega
      · have t1 : ((mkT x).toList == ([115, 110, 97, 112] : List UInt8)) = false := by rw [Lib.toList_data, data_mkT, beq_eq_false_iff_ne]; exact fun e => e1 (.inl e)
        have t2 : ((mkT x).toList == (mkT g).toList) = false := by
          rw [tx_eq, decide_eq_false_iff_not]
          intro e
          exact e1 (.inr (mkT_inj.1 e))
        have hdel := fun W (hW : IsD W p F u) => delete_any W p F u (mkT x) hW (good_max hgood)
        rw [show (mkT x).data.toList = x from data_mkT x] at hdel
        by_cases hz : (Dk.counted u (Dk.deleteOn x)).2 = 0
        · have HS2 : Hid (sweepS g (l.drop (k + 1)) (Dk.counted u (Dk.deleteOn x)).1 = R) := by
            have := HU'.out.2
            rw [HDr.out] at this
            unfold sweepS at this
            rw [if_neg e1, if_pos hz] at this
            exact this
          rw [hz] at hdel
          clear e1
          go_wp2_with (go_at_call 99; refine (hdel _ HU'.out.1).mono ?_; rintro e w2 ⟨rfl, hd2, hk2⟩)
          go_roundw
          case rel => exact ⟨k + 1, by omega, by go_num, ⟨_, hd2, HS2.out⟩, HK.out.trans hk2⟩
          case measure => simp [intOf]; omega
        · have HS2 : Hid (Dk.counted u (Dk.deleteOn x) = R) := by
            have := HU'.out.2
            rw [HDr.out] at this
            unfold sweepS at this
            rw [if_neg e1, if_neg hz] at this
            exact this
          rw [HS2.out] at hdel hz
          clear e1
          obtain ⟨S', E⟩ := R
          simp only at hdel hz
          go_wp2_with (go_at_call 99; refine (hdel _ HU'.out.1).mono ?_; rintro e w2 ⟨rfl, hd2, hk2⟩)
          go_ret
          exact ⟨rfl, hd2, HK.out.trans hk2⟩
    · have HE : Hid ((u, 0) = R) := by
        have := HU'.out.2
        rw [List.drop_eq_nil_of_le (by have := HN.out; omega)] at this
        exact this
      go_wp2
      go_ret
      have := HE.out
      subst this
      exact ⟨rfl, HU'.out.1, HK.out⟩
end Go.Proofs.YtdemoghlibnooaaGreatDoor
