import Derived.Test.YtdemoghlibnooaaGreatDoorXP
import Derived.Test.YtdemoghlibnooaaGreatDoorG1
import Derived.Test.YtdemoghlibnooaaGreatDoorB7
import Derived.Lib.SliceRun
import Derived.Test.YtdemoghlibnooaaGreatDoorBC
import Derived.Deep.RegionHeld3
import Derived.Test.YtdemoghlibnooaaGreatDoorA2
import Derived.Test.YtdemoghlibnooaaGreatDoorShelk
import Derived.Laws.Concat
import Derived.Test.YtdemoghlibnooaaGreatDoorCards
import Derived.Test.YtdemoghlibnooaaGreatDoorTie
import Derived.ProofKit
import Derived.OpenShut
import Derived.JoinedCond
import Derived.SizedLaws
import Derived.Deep.Strs
import Derived.Deep.Slices
import Derived.Deep.DeepHandedRow
import Derived.Lib.LaidTab
import Derived.Stop.LaidErr
namespace Go.Proofs.YtdemoghlibnooaaGreatDoor
open Go.RowKit Go.Maps Go.Sort Orl Pk
set_option linter.unusedVariables false
set_option linter.unusedSimpArgs false
theorem gPow : Tryz.prog.globalNamed "internal/strconv.uint64pow10" = some 1 := by kernel_rfl
def PowIn (w : World) : Prop := Lib.TabIs Tryz.prog w "internal/strconv.uint64pow10" .u64 Lib.pow10Tab
theorem PowIn.lt {w : World} (h : PowIn w) : 1 < w.heap.size := by
  unfold PowIn Lib.TabIs World.var? at h
  rw [gPow] at h
  simp only [Option.bind_some] at h
  rcases Nat.lt_or_ge 1 w.heap.size with h' | h'
  · exact h'
  · rw [Array.getElem?_eq_none h'] at h; cases h
theorem PowIn.keeps {S : Nat → Prop} {w w' : World} (h : PowIn w) (hk : Keeps S w w') (h0 : ¬ S 1) : PowIn w' := by
  have hl := h.lt
  unfold PowIn Lib.TabIs World.var? at h ⊢
  rw [gPow] at h ⊢
  simp only [Option.bind_some] at h ⊢
  rw [hk.block _ hl h0]
  exact h
theorem PowIn.keepsN {w w' : World} (h : PowIn w) (hk : Keeps no w w') : PowIn w' := h.keeps hk (fun h => h)
theorem keeps_growK (w : World) (k : Nat) (os : Array Obj) : Keeps no w (Sort.grow (w.drewN k) os) := by
  refine ⟨rfl, rfl, rfl, by simp [Sort.grow, World.drewN], fun i hi _ => ?_⟩
  simp [Sort.grow, World.drewN, Array.getElem?_append, hi]
structure Tabs (w : World) : Prop where
  crc : TabIn w
  pow : PowIn w
theorem Tabs.keepsN {w w' : World} (h : Tabs w) (hk : Keeps no w w') : Tabs w' := ⟨h.crc.keepsN hk, h.pow.keepsN hk⟩
theorem log_any (w : World) (ht : PowIn w) (g : Int) (h0 : -9223372036854775808 ≤ g) (h1 : g ≤ 9223372036854775807) :
    Calls Tryz.prog 49 #[.int .i64 g] w fun e w' => e = .returned (.string (logN g)) ∧ Keeps no w w' := by
  have hl : (Lib.itoa g).length ≤ 21 := Lib.itoa_length_le g h0 h1
  have HK := fun (k : Nat) (os : Array Obj) => keeps_growK w k os
  have hadd : ∀ W : World, (Op.stringOp .add (⟨#[108, 111, 103, 46]⟩ : ByteArray) ⟨(Lib.itoa g).toArray⟩).run Tryz.prog W = .ok (.string (logN g)) W := fun W => by
    have := run_string_add_lists (P := Tryz.prog) (w := W) stemB (Lib.itoa g) (by simp [stemB]) (by omega)
    exact this
  go_enter Tryz.func49, Tryz.ntmps49
  go_wp2_with (go_at_call 100; refine (Any.strconv_FormatInt_10 Tryz.laysFormat g h0 h1 _ ht).mono ?_; rintro e w1 ⟨rfl, k, os, rfl⟩)
  go_ret
  exact ⟨rfl, HK k os⟩
theorem contains_any (w : World) (a : Option Addr) (n c : Nat) (xs : List Tx) (s : Tx) (hn : n = xs.length) (hs : Sl TE w a c xs) (hb : (n : Int) ≤ 8796093022000) :
    Calls Tryz.prog 98 #[.slice a n c, .string s] w fun e w' => e = .returned (.bool (inn xs s)) ∧ w' = w := by
  have hI := index_any w a n c xs s hn hs hb
  clear hn hs hb
  by_cases hm : s ∈ xs
  · rw [(inn_iff xs s).2 hm]
    have hI' : Calls Tryz.prog 141 #[.slice a n c, .string s] w fun e w' => ∃ I : Nat, e = .returned (.int .i64 (I : Nat)) ∧ w' = w := by
      refine hI.mono ?_
      rintro e w1 ⟨⟨_, he⟩ | ⟨h, _⟩, hw⟩
      · exact ⟨_, he, hw⟩
      · exact absurd hm h
    clear hI hm
    go_enter Tryz.func98, Tryz.ntmps98
    go_wp2_with (go_at_call 141; refine hI'.mono ?_; rintro e w1 ⟨I, rfl, hw⟩; subst w1)
    go_ret
    exact ⟨rfl, rfl⟩
  · rw [inn_no hm]
    have hI' : Calls Tryz.prog 141 #[.slice a n c, .string s] w fun e w' => e = .returned (.int .i64 (-1)) ∧ w' = w := by
      refine hI.mono ?_
      rintro e w1 ⟨⟨h, _⟩ | ⟨_, he⟩, hw⟩
      · exact absurd h hm
      · exact ⟨he, hw⟩
    clear hI hm
    go_enter Tryz.func98, Tryz.ntmps98
    go_wp2_with (go_at_call 141; refine hI'.mono ?_; rintro e w1 ⟨rfl, hw⟩; subst w1)
    go_ret
    exact ⟨rfl, rfl⟩
def Sto (B : Nat) (w : World) (p : Nat) (s : St) (N : Nat) (P : Nat → Prop) : Prop := ∃ T, IsS w p T s N ∧ Ok s ∧ (∀ b, T b ≠ none → B ≤ b) ∧ ∀ b, P b → T b = none ∧ b < w.heap.size
section
variable {B : Nat} {w w' : World} {p : Nat} {s : St} {N : Nat} {P : Nat → Prop}
theorem Sto.le (h : Sto B w p s N P) : B ≤ w.heap.size := by
  obtain ⟨T, ⟨y, hi⟩, _, hB, _⟩ := h
  have h1 : T p ≠ none := by rw [hi.tp]; simp
  have := hB p h1
  have := hi.lt p h1
  omega
theorem Sto.other (h : Sto B w p s N P) {S : Nat → Prop} (hk : Keeps S w w') (hS : ∀ b, S b → b < B ∨ P b) : Sto B w' p s N (fun b => P b ∨ (w.heap.size ≤ b ∧ b < w'.heap.size)) := by
  obtain ⟨T, hi, ho, hB, hP⟩ := h
  refine ⟨T, hi.keeps hk (fun b hb hs => ?_), ho, hB, fun b hb => ?_⟩
  · rcases hS b hs with h1 | h1
    · have := hB b hb; omega
    · exact hb (hP b h1).1
  · rcases hb with h1 | ⟨h1, h2⟩
    · exact ⟨(hP b h1).1, Nat.lt_of_lt_of_le (hP b h1).2 hk.size⟩
    · refine ⟨?_, h2⟩
      cases hT : T b with
      | none => rfl
      | some r => have := hi.lt b (by rw [hT]; simp); omega
theorem Sto.sub (h : Sto B w p s N P) {Q : Nat → Prop} (hQ : ∀ b, Q b → P b) : Sto B w p s N Q := by
  obtain ⟨T, hi, ho, hB, hP⟩ := h
  exact ⟨T, hi, ho, hB, fun b hb => hP b (hQ b hb)⟩
theorem Sto.more (h : Sto B w p s N P) {M : Nat} (hM : N ≤ M) : Sto B w p s M P := by
  obtain ⟨T, hi, ho, hB, hP⟩ := h
  exact ⟨T, hi.more hM, ho, hB, hP⟩
theorem Sto.of {w0 : World} (h : Ow w0 w p s N P) : Sto w0.heap.size w p s N P := by
  obtain ⟨T, hs, hP⟩ := h
  exact ⟨T, hs.is, hs.ok, hs.new, fun b hb => ⟨(hP b hb).1, (hP b hb).2.2⟩⟩
theorem Sto.put (h : Sto B w p s N P) (i : Nat) (ps : List Pr) (keys : List Tx) (now : Int) (ap : Option Addr) (np cp : Nat) (ak : Option Addr) (nk ck : Nat) (hi : i < 18446744073709551616) (hnp : np = ps.length) (hnk : nk = keys.length) (hsp : Sl PE w ap cp ps) (hsk : Sl TE w ak ck keys) (hlp : ps.length ≤ 100000) (hok : okPut i ps keys now = true) (hN : N ≤ 900000000) :
    Calls Tryz.prog 42 #[.pointer (some ⟨p, 0, none⟩), .int .u64 ((i : Nat) : Int), .slice ap np cp, .slice ak nk ck, .int .i64 now] w fun e w' => (∃ B : Bool, e = .returned (.tuple #[.bool B, .int .i64 0])) ∧ Hid (Sto B w' p (putAll i keys now s (miss s i ps)) (N + ps.length) P ∧ Keeps (fun b => B ≤ b ∧ ¬ P b) w w') := by
  have hBle := h.le
  obtain ⟨T, his, ho, hB, hP⟩ := h
  have hlk : keys.length ≤ 140737488355328 := by
    unfold okPut at hok
    simp only [Bool.and_eq_true] at hok
    have := (okKeys_iff.1 hok.2.1).1.2
    omega
  refine (put_good w p T s N i ps keys now ap np cp ak nk ck his hi hnp hnk hlp hlk hsp hsk hok hN).mono ?_
  rintro e w' ⟨rfl, T', hi', hT, hk⟩
  have hle : (miss s i ps).length ≤ ps.length := List.length_filter_le _ _
  refine ⟨⟨_, rfl⟩, ⟨T', hi'.more (by omega), ok_put ho hi hok, fun b hb => ?_, fun b hb => ⟨?_, Nat.lt_of_lt_of_le (hP b hb).2 hk.size⟩⟩, hk.mono fun b hb => ⟨hB b hb.1, fun hp => hb.1 (hP b hp).1⟩⟩
  · by_cases hlt : b < w.heap.size
    · rw [hT b hlt] at hb; exact hB b hb
    · omega
  · rw [hT b (hP b hb).2]; exact (hP b hb).1
theorem Sto.commit (h : Sto B w p s N P) (i : Nat) (now : Int) (hi : i < 18446744073709551616) (hi2 : 65536 ≤ i) (ht : tickB now = true) (hN : N ≤ 2000000000000) :
    Calls Tryz.prog 43 #[.pointer (some ⟨p, 0, none⟩), .int .u64 ((i : Nat) : Int), .int .i64 now] w fun e w' => (∃ n : Nat, e = .returned (.tuple #[.int .i64 ((n : Nat) : Int), .int .i64 0])) ∧ Hid (Sto B w' p (commitS s i now) N P ∧ Keeps (fun b => B ≤ b ∧ ¬ P b) w w') := by
  obtain ⟨T, his, ho, hB, hP⟩ := h
  refine (commit_good w p T s N i now his ho hi hi2 ht hN).mono ?_
  rintro e w' ⟨n, rfl, _, hi', hk⟩
  exact ⟨⟨n, rfl⟩, ⟨T, hi', ok_commit ho ht, hB, fun b hb => ⟨(hP b hb).1, Nat.lt_of_lt_of_le (hP b hb).2 hk.size⟩⟩, hk.mono fun b hb => ⟨hB b hb.1, fun hp => hb.1 (hP b hp).1⟩⟩
end
theorem sto_new (w : World) : Calls Tryz.prog 8 #[] w fun e w' => ∃ p, e = .returned (.pointer (some ⟨p, 0, none⟩)) ∧ Hid (Sto w.heap.size w' p St.new 0 no ∧ Keeps no w w') := by
  refine (ow_new w).mono ?_
  rintro e w' ⟨p, rfl, h⟩
  exact ⟨p, rfl, Sto.of h.out, h.out.keep⟩
theorem tick_fs {t : Dk.St} (h : (Dk.tick t).off = false) : (Dk.tick t).fs = t.fs ∧ t.off = false := by
  unfold Dk.tick at h ⊢
  split at h
  · rename_i h0
    unfold Dk.crash at h
    split at h
    · rename_i h1; rw [h1] at h; cases h
    · cases h
  · rename_i h0
    split at h
    · rename_i h1
      rw [if_neg h0, if_pos h1]
      exact ⟨rfl, h⟩
    · rename_i h1
      rw [if_neg h0, if_neg h1]
      exact ⟨rfl, h⟩
def SweepTo (w : World) (p : Nat) (F : Nat → Prop) (R : Dk.St × Int) (e : Ending) (w' : World) : Prop := e = .returned (.int .i64 R.2) ∧ Hid (IsD w' p F R.1 ∧ Keeps F w w')
theorem good_max {n : Dk.Nm} (h : Dk.good n = true) : (mkT n).size ≤ maxLen := by
  unfold Dk.good at h
  simp only [Bool.and_eq_true, decide_eq_true_eq] at h
  have e : (mkT n).size = n.length := by simp [mkT, ByteArray.size]
  rw [e]; unfold maxLen; omega
end Go.Proofs.YtdemoghlibnooaaGreatDoor
namespace Go.Proofs.YtdemoghlibnooaaGreatDoor
open Go.ChangeShapes Go.WideShapes Go.ChangeAt Go.RowKit Go.Deep
set_option linter.unusedVariables false
set_option linter.unusedSimpArgs false
theorem own : ownKnob Tryz.prog.godebug = none := by kernel_rfl
theorem weightsAll_mem {H : Type} {P : Program} {e : TypeId} : ∀ {l : List (DataW H)} {d : DataW H}, d ∈ l → ∀ n ∈ d.weights P e, n ∈ DataW.weightsAll P e l := by
  intro l
  induction l with
  | nil => intro d h; cases h
  | cons x l ih =>
    intro d h n hn
    simp only [DataW.weightsAll, List.mem_append]
    rcases List.mem_cons.mp h with rfl | h
    · exact .inl hn
    · exact .inr (ih h n hn)
theorem str_len (s : ByteArray) : s.data.toList.length = s.size := by rw [Array.length_toList]; rfl
theorem mcells?_get {w : World} {base : Nat} {a : Addr} {n : Nat} {cs : List Value} (h : w.cells? base a n = some cs) : base ≤ a.block ∧ cs.length = n ∧ ∀ i, i < n → w.cell? (a.add i) = cs[i]? := by
  unfold World.cells? at h
  split at h
  · rename_i hb
    have hl := mapM_some_length h
    refine ⟨hb, by simpa using hl, fun i hi => ?_⟩
    have := mapM_some_get h i i (by simp [hi])
    simpa using this
  · cases h
theorem row_of_el {α : Type} {E : El α} (hE : E.Ok) (z : α) {W : World} {b off : Nat} {ss : List α} (h : ∀ j, j < ss.length → ∀ k, k < E.k → W.cell? ⟨b, off + j * E.k + k, none⟩ = (E.enc (ss.getD j z))[k]?) : Row E W (some ⟨b, off, none⟩) ss := by
  refine .inr ⟨b, off, rfl, fun j u hj => ?_⟩
  have hjl : j < ss.length * E.k := by
    have := (List.getElem?_eq_some_iff.mp hj).1
    rw [cells_length hE] at this
    exact this
  have hp := hE.pos
  have hd : j / E.k < ss.length := (Nat.div_lt_iff_lt_mul hp).2 hjl
  have hm : j % E.k < E.k := Nat.mod_lt _ hp
  have hc := cells_at hE z ss (j / E.k) (j % E.k) hd hm
  have hjj : j / E.k * E.k + j % E.k = j := Nat.div_add_mod' j E.k
  rw [hjj, hj] at hc
  have hh := h (j / E.k) hd (j % E.k) hm
  rw [Nat.add_assoc, hjj] at hh
  rw [hh, ← hc]
theorem open_list {α : Type} (E : El α) (hE : E.Ok) (z : α) (OKp : α → Prop) (hcl : Tryz.prog.cellsOf E.e = E.k) (hby : Tryz.prog.bytesOf E.e = E.nb)
    {H : Type} {enc : TypeId × Value → H} {W : World} {held : Bool}
    (one : ∀ (fuel : Nat) (cs : List Value) (x : DataW H × List MemPlace), DataW.trod enc Tryz.prog W 0 (fun _ => true) held fuel E.e cs = some x → (∀ n ∈ x.1.weights Tryz.prog E.e, n ≤ reachBytes) → ∃ p, cs = E.enc p ∧ OKp p)
    {fuel : Nat} {a : Option Addr} {len cap : Nat} {x : DataW H × List MemPlace}
    (hf : DataW.trod enc Tryz.prog W 0 (fun _ => true) held fuel E.t [.slice a len cap] = some x) (hw : ∀ n ∈ x.1.weights Tryz.prog E.t, n ≤ reachBytes) :
    ∃ ps : List α, ps.length = len ∧ Sl E W a cap ps ∧ (∀ p ∈ ps, OKp p) ∧ cap * E.nb ≤ reachBytes := by
  rcases open_slice hE.und hf with ⟨hcs, hx⟩ | ⟨y, l, c, m, n, D, Pl, hcs, _, hl, hm, hmm, hx, hel⟩
  · simp at hcs
    obtain ⟨rfl, rfl, rfl⟩ := hcs
    exact ⟨[], rfl, ⟨.inl rfl, by simp, fun _ => rfl⟩, fun p hp => (by cases hp), by simp [reachBytes]⟩
  · simp at hcs
    obtain ⟨rfl, rfl, rfl⟩ := hcs
    have hmm' : m = cap := by simpa using hmm
    subst hmm'
    have hw' : ∀ n ∈ (DataW.slice ((List.range len).map D) ((List.range (m - len)).map fun j => D (len + j))).weights Tryz.prog E.t, n ≤ reachBytes := by rw [hx] at hw; exact hw
    simp only [DataW.weights, hE.und] at hw'
    have hcapw := hw' _ (List.mem_cons_self)
    rw [hby] at hcapw
    simp only [List.length_map, List.length_range] at hcapw
    rw [show len + (m - len) = m by omega] at hcapw
    have each : ∀ i, i < len → ∃ p : α, (W.cells? 0 (y.add (i * E.k)) E.k = some (E.enc p)) ∧ OKp p := by
      intro i hi
      obtain ⟨cs', hc, ht⟩ := hel i (by omega)
      rw [hcl] at hc
      obtain ⟨p, rfl, h2⟩ := one n cs' _ ht (fun k hk => hw' k (List.mem_cons_of_mem _ (List.mem_append_left _ (weightsAll_mem (List.mem_map.2 ⟨i, by simp [hi], rfl⟩) k hk))))
      exact ⟨p, hc, h2⟩
    have inh : Inhabited α := ⟨z⟩
    obtain ⟨F, hF⟩ := choose_lt each
    have hget : ∀ j, j < len → ((List.range len).map F).getD j z = F j := fun j hj => by simp [List.getD_eq_getElem?_getD, hj]
    refine ⟨(List.range len).map F, by simp, ⟨?_, by simpa using hl, fun h => (by cases h)⟩, ?_, hcapw⟩
    · by_cases h0 : len = 0
      · left; subst h0; simp
      · obtain ⟨b, off, spot⟩ := y
        obtain ⟨_, hl2, hce⟩ := mcells?_get (hF 0 (by omega)).1
        have hc0 := hce 0 hE.pos
        have hspot : spot = none := by
          have h7 : (E.enc (F 0))[0]? = some ((E.enc (F 0))[0]'(by rw [hE.len]; exact hE.pos)) := List.getElem?_eq_getElem _
          rw [h7] at hc0
          simpa [Addr.add] using World.cell?_spot hc0
        subst hspot
        refine row_of_el hE z fun j hj k hk => ?_
        simp at hj
        obtain ⟨_, _, hce⟩ := mcells?_get (hF j hj).1
        have g0 := hce k hk
        rw [addr_add, addr_add] at g0
        rw [hget j hj]
        exact g0
    · intro p hp
      simp only [List.mem_map, List.mem_range] at hp
      obtain ⟨i, hi, rfl⟩ := hp
      exact (hF i hi).2
theorem mc9 : Tryz.prog.cellsOf 9 = 1 := by kernel_rfl
theorem mb9 : Tryz.prog.bytesOf 9 = 16 := by kernel_rfl
section
variable {H : Type} {enc : TypeId × Value → H} {W : World} {held : Bool}
theorem reach_eq : reachBytes = 140737488351232 := by decide
theorem one_text (fuel : Nat) (cs : List Value) (x : DataW H × List MemPlace) (h : DataW.trod enc Tryz.prog W 0 (fun _ => true) held fuel 9 cs = some x) (hw : ∀ n ∈ x.1.weights Tryz.prog 9, n ≤ reachBytes) :
    ∃ p : Tx, cs = [.string p] ∧ p.size ≤ 140737488351232 := by
  obtain ⟨s, rfl, rfl, _⟩ := DataW.trod_string Tryz.underlying9 h
  refine ⟨s, rfl, ?_⟩
  have := hw s.data.toList.length (by simp [DataW.weights])
  rw [str_len, reach_eq] at this
  exact this
theorem is_slice {t e : TypeId} (ht : Tryz.prog.underlying t = some (.slice e)) {fuel : Nat} {c : Value} {x : DataW H × List MemPlace} (h : DataW.trod enc Tryz.prog W 0 (fun _ => true) held fuel t [c] = some x) : ∃ a len cap, c = .slice a len cap := by
  rcases open_slice ht h with ⟨hcs, hx⟩ | ⟨y, l, c, m, n, D, Pl, hcs, _⟩
  · exact ⟨_, _, _, by simpa using hcs⟩
  · exact ⟨_, _, _, by simpa using hcs⟩
theorem open_txs {fuel : Nat} {a : Option Addr} {len cap : Nat} {x : DataW H × List MemPlace}
    (hf : DataW.trod enc Tryz.prog W 0 (fun _ => true) held fuel 45 [.slice a len cap] = some x) (hw : ∀ n ∈ x.1.weights Tryz.prog 45, n ≤ reachBytes) :
    ∃ ss : List Tx, ss.length = len ∧ Sl TE W a cap ss ∧ (∀ s ∈ ss, s.size ≤ 140737488351232) ∧ cap * 16 ≤ reachBytes :=
  open_list TE okT e0 (fun p => p.size ≤ 140737488351232) mc9 mb9 (fun fuel cs x h hw => one_text fuel cs x h hw) hf hw
theorem each_mem {t : TypeId} {fs : Array Field} (ht : Tryz.prog.underlying t = some (.struct fs)) {xs : List (DataW H × List MemPlace)} (hw : ∀ n ∈ (DataW.agg (xs.map (·.1))).weights Tryz.prog t, n ≤ reachBytes) {j : Nat} {f : Field} {x : DataW H × List MemPlace} (hj : fs.toList[j]? = some f) (hx : xs[j]? = some x) : ∀ n ∈ x.1.weights Tryz.prog f.type, n ≤ reachBytes := by
  intro n hn
  refine hw n ?_
  simp only [DataW.weights, ht]
  exact DataW.weights_mem_each (j := j) (t := f.type) (d := x.1) (by simp [hj]) (by simp [hx]) n hn
theorem u64_nat {z : Int} (w : (Lit.int .u64 z).wf = true) : ∃ n : Nat, z = (n : Int) ∧ n < 18446744073709551616 := by
  have := bounds_u64 w
  exact ⟨z.toNat, by omega, by omega⟩
end
theorem fcells5 : Tryz.prog.cellsOf 5 = 1 := by kernel_rfl
theorem fbytes5 : Tryz.prog.bytesOf 5 = 1 := by kernel_rfl
def toN (zs : List Int) : List Nat := zs.map fun z => z.toNat
theorem open_bytes {H : Type} {enc : TypeId × Value → H} {W : World} {held : Bool} {fuel : Nat} {a : Option Addr} {len cap : Nat} {x : DataW H × List MemPlace}
    (hf : DataW.trod enc Tryz.prog W 0 (fun _ => true) held fuel 29 [.slice a len cap] = some x) :
    ∃ bs : List Nat, bs.length = len ∧ (cap ≤ 9223372036854775807 → BSl W a cap bs) ∧ ((x.1 = .nil ∧ bs = [] ∧ cap = 0) ∨ ∃ elems spare, x.1 = .slice elems spare ∧ elems.length = bs.length ∧ elems.length + spare.length = cap) := by
  rcases open_ints Tryz.underlying29 Tryz.underlying5 fcells5 hf with ⟨hcs, hx⟩ | ⟨y, l, c, zs, hcs, _, hl, hm, hz, hx, hcell, hwz⟩
  · simp at hcs
    obtain ⟨rfl, rfl, rfl⟩ := hcs
    exact ⟨[], rfl, fun _ => ⟨⟨fun c hc => (by cases hc), by simp, .inl rfl⟩, by simp, fun _ => rfl⟩, .inl ⟨by rw [hx], rfl, rfl⟩⟩
  · simp at hcs
    obtain ⟨rfl, rfl, rfl⟩ := hcs
    have hz' : zs.length = cap := by simpa using hz
    have hl' : (toN (zs.take len)).length = len := by simp only [toN]; rw [List.length_map, List.length_take]; omega
    have hby : ∀ c ∈ toN (zs.take len), c < 256 := by
      intro c hc
      simp only [toN, List.mem_map] at hc
      obtain ⟨z, hz1, rfl⟩ := hc
      have hb := bounds_u8 (hwz z (List.mem_of_mem_take hz1))
      omega
    refine ⟨toN (zs.take len), hl', fun hcap => ⟨⟨hby, by rw [hl']; omega, ?_⟩, by rw [hl']; exact hl, by simp⟩, .inr ⟨_, _, by rw [hx], by rw [hl']; simp [lits]; omega, by simp [lits]; omega⟩⟩
    by_cases h0 : len = 0
    · left; subst h0; simp [toN]
    · right
      obtain ⟨b, off, spot⟩ := y
      have hc := hcell 0 (by omega)
      have hspot : spot = none := by simpa [Addr.add] using World.cell?_spot hc
      subst hspot
      refine ⟨b, off, rfl, fun j hj => ?_⟩
      rw [hl'] at hj
      have h1 := hcell j (by omega)
      rw [addr_add] at h1
      rw [h1]
      have hjz : j < zs.length := by omega
      have hb := bounds_u8 (hwz zs[j] (List.getElem_mem hjz))
      simp [toN, hj, hjz]
      omega
theorem size_bytes {H : Type} {cap : Nat} {bs : List Nat} {d : DataW H} (h : (d = .nil ∧ bs = [] ∧ cap = 0) ∨ ∃ elems spare, d = .slice elems spare ∧ elems.length = bs.length ∧ elems.length + spare.length = cap) {ts : List TypeId} {ds : List (DataW H)} (hsz : (DataW.weightsEach Tryz.prog ts ds).all (· ≤ reachBytes) = true) {j : Nat} (ht : ts[j]? = some 29) (hd : ds[j]? = some d) : cap ≤ 140737488351232 := by
  rcases h with ⟨_, _, h⟩ | ⟨elems, spare, h, _, hlen⟩
  · omega
  · subst h
    have := sized_slice hsz ht hd Tryz.underlying29
    rw [fbytes5, hlen] at this
    simp only [reachBytes] at this
    omega
theorem mcP : Tryz.prog.cellsOf 85 = 2 := by kernel_rfl
theorem mbP : Tryz.prog.bytesOf 85 = 32 := by kernel_rfl
theorem bulk_one {H : Type} (d : DataW H) : 1 ≤ Rows.uptoBulk d := by
  cases d with
  | lit l => cases l <;> simp [Rows.uptoBulk]
  | _ => simp [Rows.uptoBulk]
theorem bulk_len {H : Type} : ∀ (l : List (DataW H)), l.length ≤ Rows.uptoBulkAll l
  | [] => by simp [Rows.uptoBulkAll]
  | d :: l => by
    have := bulk_len l
    have := bulk_one d
    simp only [Rows.uptoBulkAll, List.length_cons]; omega
theorem bulk_sum {H : Type} {α : Type} (f : α → Nat) (F : Nat → α) (D : Nat → DataW H) : ∀ (L : List Nat), (∀ i ∈ L, f (F i) ≤ Rows.uptoBulk (D i)) → ((L.map F).map f).sum ≤ Rows.uptoBulkAll (L.map D)
  | [], _ => by simp [Rows.uptoBulkAll]
  | i :: L, h => by
    have := bulk_sum f F D L (fun j hj => h j (List.mem_cons_of_mem _ hj))
    have := h i List.mem_cons_self
    simp only [List.map_cons, List.sum_cons, Rows.uptoBulkAll]
    omega
theorem open_listB {H : Type} {α : Type} (E : El α) (hE : E.Ok) (z : α) (OKp : α → DataW H → Prop) (f : α → Nat) (hfd : ∀ p d, OKp p d → f p ≤ Rows.uptoBulk d) (hcl : Tryz.prog.cellsOf E.e = E.k) (hby : Tryz.prog.bytesOf E.e = E.nb)
    {enc : TypeId × Value → H} {W : World} {held : Bool}
    (one : ∀ (fuel : Nat) (cs : List Value) (x : DataW H × List MemPlace), DataW.trod enc Tryz.prog W 0 (fun _ => true) held fuel E.e cs = some x → (∀ n ∈ x.1.weights Tryz.prog E.e, n ≤ reachBytes) → ∃ p, cs = E.enc p ∧ OKp p x.1)
    {fuel : Nat} {a : Option Addr} {len cap : Nat} {x : DataW H × List MemPlace}
    (hf : DataW.trod enc Tryz.prog W 0 (fun _ => true) held fuel E.t [.slice a len cap] = some x) (hw : ∀ n ∈ x.1.weights Tryz.prog E.t, n ≤ reachBytes) :
    ∃ ps : List α, ps.length = len ∧ Sl E W a cap ps ∧ (∀ p ∈ ps, ∃ d, OKp p d) ∧ cap * E.nb ≤ reachBytes ∧ len ≤ Rows.uptoBulk x.1 ∧ (ps.map f).sum ≤ Rows.uptoBulk x.1 := by
  rcases open_slice hE.und hf with ⟨hcs, hx⟩ | ⟨y, l, c, m, n, D, Pl, hcs, _, hl, hm, hmm, hx, hel⟩
  · simp at hcs
    obtain ⟨rfl, rfl, rfl⟩ := hcs
    exact ⟨[], rfl, ⟨.inl rfl, by simp, fun _ => rfl⟩, fun p hp => (by cases hp), by simp [reachBytes], by simp, by simp⟩
  · simp at hcs
    obtain ⟨rfl, rfl, rfl⟩ := hcs
    have hmm' : m = cap := by simpa using hmm
    subst hmm'
    have hw' : ∀ n ∈ (DataW.slice ((List.range len).map D) ((List.range (m - len)).map fun j => D (len + j))).weights Tryz.prog E.t, n ≤ reachBytes := by rw [hx] at hw; exact hw
    simp only [DataW.weights, hE.und] at hw'
    have hcapw := hw' _ (List.mem_cons_self)
    rw [hby] at hcapw
    simp only [List.length_map, List.length_range] at hcapw
    rw [show len + (m - len) = m by omega] at hcapw
    have each : ∀ i, i < len → ∃ p : α, (W.cells? 0 (y.add (i * E.k)) E.k = some (E.enc p)) ∧ OKp p (D i) := by
      intro i hi
      obtain ⟨cs', hc, ht⟩ := hel i (by omega)
      rw [hcl] at hc
      obtain ⟨p, rfl, h2⟩ := one n cs' _ ht (fun k hk => hw' k (List.mem_cons_of_mem _ (List.mem_append_left _ (weightsAll_mem (List.mem_map.2 ⟨i, by simp [hi], rfl⟩) k hk))))
      exact ⟨p, hc, h2⟩
    have inh : Inhabited α := ⟨z⟩
    obtain ⟨F, hF⟩ := choose_lt each
    have hget : ∀ j, j < len → ((List.range len).map F).getD j z = F j := fun j hj => by simp [List.getD_eq_getElem?_getD, hj]
    have hb1 : Rows.uptoBulkAll ((List.range len).map D) ≤ Rows.uptoBulk x.1 := by rw [hx]; simp only [Rows.uptoBulk]; omega
    refine ⟨(List.range len).map F, by simp, ⟨?_, by simpa using hl, fun h => (by cases h)⟩, ?_, hcapw, Nat.le_trans (by have := bulk_len ((List.range len).map D); simpa using this) hb1, Nat.le_trans (bulk_sum f F D _ (fun i hi => hfd _ _ (hF i (List.mem_range.1 hi)).2)) hb1⟩
    · by_cases h0 : len = 0
      · left; subst h0; simp
      · obtain ⟨b, off, spot⟩ := y
        obtain ⟨_, hl2, hce⟩ := mcells?_get (hF 0 (by omega)).1
        have hc0 := hce 0 hE.pos
        have hspot : spot = none := by
          have h7 : (E.enc (F 0))[0]? = some ((E.enc (F 0))[0]'(by rw [hE.len]; exact hE.pos)) := List.getElem?_eq_getElem _
          rw [h7] at hc0
          simpa [Addr.add] using World.cell?_spot hc0
        subst hspot
        refine row_of_el hE z fun j hj k hk => ?_
        simp at hj
        obtain ⟨_, _, hce⟩ := mcells?_get (hF j hj).1
        have g0 := hce k hk
        rw [addr_add, addr_add] at g0
        rw [hget j hj]
        exact g0
    · intro p hp
      simp only [List.mem_map, List.mem_range] at hp
      obtain ⟨i, hi, rfl⟩ := hp
      exact ⟨D i, (hF i hi).2⟩
theorem list6 {α : Type} {cs : List α} (h : cs.length = 6) : ∃ c0 c1 c2 c3 c4 c5, cs = [c0, c1, c2, c3, c4, c5] := by
  match cs, h with
  | [c0, c1, c2, c3, c4, c5], _ => exact ⟨c0, c1, c2, c3, c4, c5, rfl⟩
section
variable {H : Type} {enc : TypeId × Value → H} {W : World} {held : Bool}
end
theorem gTab : Tryz.prog.globalNamed "rampart/sum.halfSteps" = some 2 := by kernel_rfl
theorem gTabType : (Tryz.prog.globals[2]?).map (·.type) = some 329 := by kernel_rfl
theorem gPowType : (Tryz.prog.globals[1]?).map (·.type) = some 306 := by kernel_rfl
theorem cellsTab : Tryz.prog.cellsOf 329 = 16 := by kernel_rfl
theorem cellsU32 : Tryz.prog.cellsOf 200 = 1 := by kernel_rfl
theorem cellsPow : Tryz.prog.cellsOf 306 = 20 := by kernel_rfl
theorem cellsU64 : Tryz.prog.cellsOf 42 = 1 := by kernel_rfl
theorem tables {W : World} (h : laidMetH Tryz.prog [("math/bits.deBruijn32tab", Rows.laid_math_bits_deBruijn32tab), ("math/bits.deBruijn64tab", Rows.laid_math_bits_deBruijn64tab), ("internal/strconv.uint64pow10", Rows.laid_internal_strconv_uint64pow10), ("rampart/sum.halfSteps", Rows.laid_rampart_sum_halfSteps)] W) : Tabs W := by
  have h2 := (laidMet.tail (laidMet.tail h))
  have t : Lib.TabIs Tryz.prog W "rampart/sum.halfSteps" .u32 [0, 498536548, 997073096, 651767980, 1994146192, 1802195444, 1303535960, 1342533948, 3988292384, 4027552580, 3604390888, 3412177804, 2607071920, 2262029012, 2685067896, 3183342108] :=
    Lib.tabIs_of_head (rest := []) gTab gTabType Tryz.underlying329 Tryz.underlying200 cellsU32 cellsTab h2.tail
  refine ⟨?_, Lib.tabIs_of_head gPow gPowType Tryz.underlying306 Tryz.underlying42 cellsU64 cellsPow h2⟩
  intro k hk
  have c := t.cell gTab k (by simpa using hk)
  rw [c]
  have e : ∀ k, k < 16 → ([0, 498536548, 997073096, 651767980, 1994146192, 1802195444, 1303535960, 1342533948, 3988292384, 4027552580, 3604390888, 3412177804, 2607071920, 2262029012, 2685067896, 3183342108] : List Int).getD k 0 = (Crc.tab.getD k 0 : Nat) := by decide
  rw [e k hk]
def putCells (cs : Array Value) : Obj → Obj
  | .cells _ t frozen => .cells cs t frozen
  | o => o
noncomputable def laidWorld (os : Os) : World :=
  { World.holding Tryz.prog os ⟨#[], #[], []⟩ with heap := ((((World.holding Tryz.prog os ⟨#[], #[], []⟩).heap.modify 2 (putCells #[.int .u32 0, .int .u32 498536548, .int .u32 997073096, .int .u32 651767980, .int .u32 1994146192, .int .u32 1802195444, .int .u32 1303535960, .int .u32 1342533948, .int .u32 3988292384, .int .u32 4027552580, .int .u32 3604390888, .int .u32 3412177804, .int .u32 2607071920, .int .u32 2262029012, .int .u32 2685067896, .int .u32 3183342108])).modify 1 (putCells #[.int .u64 1, .int .u64 10, .int .u64 100, .int .u64 1000, .int .u64 10000, .int .u64 100000, .int .u64 1000000, .int .u64 10000000, .int .u64 100000000, .int .u64 1000000000, .int .u64 10000000000, .int .u64 100000000000, .int .u64 1000000000000, .int .u64 10000000000000, .int .u64 100000000000000, .int .u64 1000000000000000, .int .u64 10000000000000000, .int .u64 100000000000000000, .int .u64 1000000000000000000, .int .u64 10000000000000000000])).modify 3 (putCells #[.int .u8 0, .int .u8 1, .int .u8 28, .int .u8 2, .int .u8 29, .int .u8 14, .int .u8 24, .int .u8 3, .int .u8 30, .int .u8 22, .int .u8 20, .int .u8 15, .int .u8 25, .int .u8 17, .int .u8 4, .int .u8 8, .int .u8 31, .int .u8 27, .int .u8 13, .int .u8 23, .int .u8 21, .int .u8 19, .int .u8 16, .int .u8 7, .int .u8 26, .int .u8 12, .int .u8 18, .int .u8 6, .int .u8 11, .int .u8 5, .int .u8 10, .int .u8 9])).modify 4 (putCells #[.int .u8 0, .int .u8 1, .int .u8 56, .int .u8 2, .int .u8 57, .int .u8 49, .int .u8 28, .int .u8 3, .int .u8 61, .int .u8 58, .int .u8 42, .int .u8 50, .int .u8 38, .int .u8 29, .int .u8 17, .int .u8 4, .int .u8 62, .int .u8 47, .int .u8 59, .int .u8 36, .int .u8 45, .int .u8 43, .int .u8 51, .int .u8 22, .int .u8 53, .int .u8 39, .int .u8 33, .int .u8 30, .int .u8 24, .int .u8 18, .int .u8 12, .int .u8 5, .int .u8 63, .int .u8 55, .int .u8 48, .int .u8 27, .int .u8 60, .int .u8 41, .int .u8 37, .int .u8 16, .int .u8 46, .int .u8 35, .int .u8 44, .int .u8 21, .int .u8 52, .int .u8 32, .int .u8 23, .int .u8 11, .int .u8 54, .int .u8 26, .int .u8 40, .int .u8 15, .int .u8 34, .int .u8 20, .int .u8 31, .int .u8 10, .int .u8 25, .int .u8 14, .int .u8 19, .int .u8 9, .int .u8 13, .int .u8 8, .int .u8 7, .int .u8 6]) }
end Go.Proofs.YtdemoghlibnooaaGreatDoor
