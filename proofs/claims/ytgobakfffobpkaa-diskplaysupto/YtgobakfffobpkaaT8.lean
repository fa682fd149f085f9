/- Calls on one of two disks, what they tell written out; calls that are refused. -/
import Derived.Test.YtgobakfffobpkaaT7
namespace Go.Proofs.Ytgobakfffobpkaa
open Go.RowKit Dk
set_option linter.unusedVariables false
set_option linter.unusedSimpArgs false

variable {w0 w : World} {p q : Nat} {s s' t : St} {F G : Nat → Prop} {er : Int}
theorem du_append (n : Tx) (ob : Option Addr) (nb cb : Nat) (b : List UInt8) (h : Duo w0 w p s q t F G) (hA : counted s (appendOn n.data.toList b) = (s', er)) (hn : n.size ≤ maxLen) (hnb : nb = b.length) (hb : Sl BE w ob cb b) (hF : ∀ k, inO ob k → ¬ F k)
    (hlen : b.length ≤ 140737488355328) (hfit : ∀ f, find n.data.toList (tick s).fs = some f → f.bs.length + b.length ≤ 140737488355328) :
    Calls Try.prog 11 #[.pointer (some ⟨p, 0, none⟩), .string n, .slice ob nb cb] w fun e w' => e = .returned (.int .i64 er) ∧ Duo w0 w' p s' q t (grow F w w') G ∧ Keeps F w w' := by
  refine (append_any w p F s n ob nb cb b h.a hn hnb hb hF hlen hfit).mono ?_
  rintro e w' ⟨rfl, hi, hk⟩
  rw [hA] at hi ⊢
  exact ⟨rfl, h.stepA hi hk, hk⟩
theorem du_sync (n : Tx) (h : Duo w0 w p s q t F G) (hA : counted s (syncOn n.data.toList) = (s', er)) (hn : n.size ≤ maxLen) :
    Calls Try.prog 13 #[.pointer (some ⟨p, 0, none⟩), .string n] w fun e w' => e = .returned (.int .i64 er) ∧ Duo w0 w' p s' q t F G ∧ Keeps F w w' := by
  refine (sync_any w p F s n h.a hn).mono ?_
  rintro e w' ⟨rfl, hi, hk⟩
  rw [hA] at hi ⊢
  exact ⟨rfl, h.sameA hi hk, hk⟩
theorem du_rename (a n : Tx) (h : Duo w0 w p s q t F G) (hA : counted s (renameOn a.data.toList n.data.toList) = (s', er)) (hn : a.size ≤ maxLen) :
    Calls Try.prog 15 #[.pointer (some ⟨p, 0, none⟩), .string a, .string n] w fun e w' => e = .returned (.int .i64 er) ∧ Duo w0 w' p s' q t F G ∧ Keeps F w w' := by
  refine (rename_any w p F s a n h.a hn).mono ?_
  rintro e w' ⟨rfl, hi, hk⟩
  rw [hA] at hi ⊢
  exact ⟨rfl, h.sameA hi hk, hk⟩
theorem du_cut (n : Tx) (k : Int) (h : Duo w0 w p s q t F G) (hA : counted s (cutOn n.data.toList k) = (s', er)) (hn : n.size ≤ maxLen) (hk : i64 k) :
    Calls Try.prog 31 #[.pointer (some ⟨p, 0, none⟩), .string n, .int .i64 k] w fun e w' => e = .returned (.int .i64 er) ∧ Duo w0 w' p s' q t F G ∧ Keeps F w w' := by
  refine (cut_any w p F s n k h.a hn hk).mono ?_
  rintro e w' ⟨rfl, hi, hk⟩
  rw [hA] at hi ⊢
  exact ⟨rfl, h.sameA hi hk, hk⟩
theorem du_size (n : Tx) (m : Nat) (h : Duo w0 w p s q t F G) (hA : tick s = s) (hB : m = (readB n.data.toList s).length) (hE : readE n.data.toList s = er) (hn : n.size ≤ maxLen) :
    Calls Try.prog 30 #[.pointer (some ⟨p, 0, none⟩), .string n] w fun e w' => e = .returned (.tuple #[.int .i64 ((m : Nat) : Int), .int .i64 er]) ∧ Duo w0 w' p s q t F G ∧ Keeps F w w' := by
  refine (size_any w p F s n h.a hn).mono ?_
  rintro e w' ⟨rfl, hi, hk⟩
  rw [hA] at hi ⊢
  rw [hE, ← hB]
  exact ⟨rfl, h.sameA hi hk, hk⟩
theorem du_read (n : Tx) {b : List UInt8} (h : Duo w0 w p s q t F G) (hA : tick s = s) (hB : readB n.data.toList s = b) (hE : readE n.data.toList s = er) (hn : n.size ≤ maxLen) (hb : b.length ≤ 140737488355328) :
    Calls Try.prog 18 #[.pointer (some ⟨p, 0, none⟩), .string n] w fun e w' => ∃ o c m, e = .returned (.tuple #[.slice o m c, .int .i64 er]) ∧ Hid (m = b.length) ∧ Own BE w' o c b ∧ New w o ∧ Duo w0 w' p s q t F G ∧ Keeps F w w' := by
  refine (read_any w p F s n h.a hn (by rw [hA, hB]; exact hb)).mono ?_
  rintro e w' ⟨o, c, m, rfl, hm, ho, hnw, hi, hk⟩
  rw [hA] at hi hm ho ⊢
  rw [hB] at hm ho
  rw [hE]
  exact ⟨o, c, m, rfl, hm, ho, hnw, h.sameA hi hk, hk⟩
theorem du_full (n : Int) (h : Duo w0 w p s q t F G) (hA : full n s = s') (hn : i64 n) :
    Calls Try.prog 29 #[.pointer (some ⟨p, 0, none⟩), .int .i64 n] w fun e w' => e = .returned (.tuple #[]) ∧ Duo w0 w' p s' q t F G ∧ Keeps F w w' := by
  refine (full_any w p F s h.a n hn).mono ?_
  rintro e w' ⟨rfl, hi, hk⟩
  rw [hA] at hi
  exact ⟨rfl, h.sameA hi hk, hk⟩
theorem du_crash (k : Int) (h : Duo w0 w p s q t F G) (hk : i64 k) :
    Calls Try.prog 25 #[.pointer (some ⟨p, 0, none⟩), .int .i64 k] w fun e w' => e = .returned (.tuple #[]) ∧ Duo w0 w' p (crash k s) q t F G ∧ Keeps F w w' := by
  refine (crash_any w p F s k h.a hk).mono ?_
  rintro e w' ⟨rfl, hi, hk⟩
  exact ⟨rfl, h.sameA hi hk, hk⟩

/-! ### shots that are kept -/
structure Shx (w : World) (x : Sh) (F G : Nat → Prop) (t : St) : Prop where
  sh : ShAt w x
  nf : ∀ i, x.foot i → ¬ F i ∧ ¬ G i
  tl : Tells x t
theorem Shx.keepsN {w w' : World} {x : Sh} {F G : Nat → Prop} {t : St} (h : Shx w x F G t) (hk : Keeps no w w') : Shx w' x F G t := ⟨h.sh.keepsN hk, h.nf, h.tl⟩
theorem Shx.keepsF {w w' : World} {x : Sh} {F G : Nat → Prop} {t : St} (h : Shx w x F G t) (hk : Keeps F w w') : Shx w' x F G t := ⟨h.sh.keeps hk (fun i hi => (h.nf i hi).1), h.nf, h.tl⟩
theorem Shx.keepsG {w w' : World} {x : Sh} {F G : Nat → Prop} {t : St} (h : Shx w x F G t) (hk : Keeps G w w') : Shx w' x F G t := ⟨h.sh.keeps hk (fun i hi => (h.nf i hi).2), h.nf, h.tl⟩
theorem Shx.swap {w : World} {x : Sh} {F G : Nat → Prop} {t : St} (h : Shx w x F G t) : Shx w x G F t := ⟨h.sh, fun i hi => ⟨(h.nf i hi).2, (h.nf i hi).1⟩, h.tl⟩
theorem du_shot (M : Nat) (h : Duo w0 w p s q t F G) (hr : Room M s) (hM : M ≤ 70368744177664) :
    Calls Try.prog 27 #[.pointer (some ⟨p, 0, none⟩)] w fun e w' => ∃ (x : Sh) (nx mx : Nat), e = .returned (.tuple #[.agg #[.slice x.on nx x.cn, .slice x.ob mx x.cb], .bool true]) ∧ Hid (x.cells = #[.slice x.on nx x.cn, .slice x.ob mx x.cb]) ∧ Hid (Shx w' x F G (up s)) ∧ Hid (Duo w0 w' p (up s) q t F G) ∧ Hid (Keeps F w w') := by
  refine (shot_any w p F s h.a M hr hM).mono ?_
  rintro e w' ⟨x, rfl, hx, hn, ht, hi, hk⟩
  exact ⟨x, _, _, rfl, rfl, ⟨hx, fun i hi => ⟨fun hf => by have := hn i hi; have := h.a.lt i hf; omega, fun hg => by have := hn i hi; have := h.b.lt i hg; omega⟩, ht⟩, h.sameA hi hk, hk⟩
theorem sameShot_of (x y : Sh) {t u : St} (hx : ShAt w x) (hy : ShAt w y) (tx : Tells x t) (ty : Tells y u) (hf : t.fs = u.fs) (hl : t.fs.length ≤ 16) :
    Calls Try.prog 28 #[.agg x.cells, .agg y.cells] w fun e w' => e = .returned (.bool true) ∧ Keeps no w w' :=
  sameShot_yes w x y hx hy (by rw [tx.nm, ty.nm, hf]) (by rw [tx.ls, ty.ls, hf]) (by rw [tx.lens.1]; exact hl) (by rw [tx.lens.2]; exact hl)

/-! ### what is refused -/
def tK : Tx := ⟨#[107, 101, 112, 116]⟩
def tE : Tx := ⟨#[]⟩
def tG : Tx := ⟨#[110, 111, 110, 101, 32, 111, 102, 32, 116, 104, 105, 115, 32, 110, 97, 109, 101, 44, 32, 105, 116, 32, 105, 115, 32, 116, 111, 111, 32, 108, 111, 110, 103, 32, 116, 111, 32, 98, 101, 32, 111, 110, 101]⟩
def tR : Tx := ⟨#[97, 32, 110, 97, 109, 101, 32, 116, 104, 97, 116, 32, 104, 97, 115, 32, 109, 111, 114, 101, 32, 116, 104, 97, 110, 32, 116, 104, 105, 114, 116, 121, 45, 116, 119, 111, 32, 98, 121, 116, 101, 115]⟩
theorem tK_max : tK.size ≤ maxLen := by unfold maxLen; decide
theorem tE_max : tE.size ≤ maxLen := by unfold maxLen; decide
theorem tG_max : tG.size ≤ maxLen := by unfold maxLen; decide
theorem good_tK : good tK.data.toList = true := by decide
theorem good_tE : good tE.data.toList = false := by decide
theorem good_tG : good tG.data.toList = false := by decide
theorem good_tR : good tR.data.toList = false := by decide
theorem find_bad {s : St} (h : Ok s) {n : Nm} (hb : good n = false) : find n s.fs = none := by
  cases hf : find n s.fs with
  | none => rfl
  | some f => have := (good_of h hf).1; rw [hb] at this; cases this
/-- a disk that is not armed and has no refusals -/
structure Plain (s : St) : Prop where
  calls : s.calls = -1
  ref : s.ref = 0
theorem gOf_ref {o : OpV} {s : St} (h : s.ref = 0) : (gOf o s).1.ref = 0 := by
  have hno : ∀ b, noRoom b s = false := fun b => by simp [noRoom, h]
  unfold gOf
  split
  · unfold appendOn
    rw [hno]
    split
    · split
      · split
        · exact h
        · exact h
      · exact h
    · exact h
  split
  · unfold syncOn onF; split <;> exact h
  split
  · unfold cutOn onF
    split
    · exact h
    · simp only []
      split <;> exact h
  split
  · unfold deleteOn onF; split <;> exact h
  split
  · unfold renameOn onF
    split
    · split <;> exact h
    · exact h
  split
  · exact h
  · exact h
theorem crash_ref {k : Int} {s : St} : (crash k s).ref = s.ref := by unfold crash; split <;> rfl
theorem crash_calls {k : Int} {s : St} (h : s.calls = -1) : (crash k s).calls = -1 := by unfold crash; split; exact h; rfl
theorem Plain.does {s : St} {o : OpV} (h : Plain s) (h11 : ¬ o.kind = 11) (h12 : ¬ o.kind = 12) : Plain (doesOn o s).1 := by
  by_cases hc : 1 ≤ o.kind ∧ o.kind ≤ 8
  · rw [doesOn_cnt hc.1 hc.2, tick_unarmed h.calls]
    cases ho : s.off with
    | true => rw [cT_off ho]; exact h
    | false => rw [cT_on ho]; exact ⟨((blind_gOf o).calls s).trans h.calls, gOf_ref h.ref⟩
  · by_cases h9 : o.kind = 9
    · rw [doesOn_9 h9]; exact ⟨crash_calls h.calls, crash_ref.trans h.ref⟩
    · by_cases h10 : o.kind = 10
      · rw [doesOn_10 h10]; exact ⟨rfl, h.ref⟩
      · rw [doesOn_0 (by omega) (by omega) (by omega) (by omega) (by omega) (by omega) (by omega) (by omega) h9 h10 h11 h12]; exact h
def rS (s : St) (r : Nat) : St := { s with ref := r }
theorem rS_full1 (s : St) : full 1 s = rS s 1 := rfl
theorem rS_full0 {s : St} (h : s.ref = 0) (r : Nat) : full 0 (rS s r) = s := by
  cases s; simp only at h; subst h; rfl
theorem rS_tick {s : St} (h : s.calls = -1) (r : Nat) : tick (rS s r) = rS s r := tick_unarmed h
theorem rS_cnt {s : St} (h : s.calls = -1) (ho : s.off = false) (r : Nat) (g : St → St × Int) : counted (rS s r) g = g (rS s r) := by
  rw [counted_cT, rS_tick h, cT_on (show (rS s r).off = false from ho)]
theorem ref_app {s : St} (h : s.calls = -1) (ho : s.off = false) (b : List UInt8) (hb : 0 < b.length) : ∃ r e, counted (rS s 1) (appendOn tK.data.toList b) = (rS s r, e) ∧ (find tK.data.toList s.fs ≠ none → e = 60) := by
  rw [rS_cnt h ho]
  unfold appendOn
  have hno : noRoom b (rS s 1) = true := by simp [noRoom, rS]; omega
  rw [if_pos good_tK, hno]
  have e1 : (rS s 1).fs = s.fs := rfl
  rw [e1]
  cases hf : find tK.data.toList s.fs with
  | none =>
    simp only []
    split
    · exact ⟨1, 3, rfl, fun h => absurd rfl h⟩
    · exact ⟨0, 60, rfl, fun _ => rfl⟩
  | some f => exact ⟨0, 60, rfl, fun _ => rfl⟩
theorem ref_app0 {s : St} (h : s.calls = -1) (ho : s.off = false) (r : Nat) (b : List UInt8) : counted (rS s r) (appendOn tE.data.toList b) = (rS s r, 1) := by
  rw [rS_cnt h ho]; unfold appendOn; rw [good_tE]; rfl
theorem ref_sync {s : St} (hok : Ok s) (h : s.calls = -1) (ho : s.off = false) (r : Nat) : counted (rS s r) (syncOn tG.data.toList) = (rS s r, 61) := by
  rw [rS_cnt h ho]; unfold syncOn; rw [onF_none (show find tG.data.toList (rS s r).fs = none from find_bad hok good_tG)]
theorem ref_ren {s : St} (h : s.calls = -1) (ho : s.off = false) (r : Nat) : counted (rS s r) (renameOn tK.data.toList tR.data.toList) = (rS s r, 1) := by
  rw [rS_cnt h ho]; unfold renameOn; rw [good_tR]; rfl
theorem ref_readB {s : St} (hok : Ok s) (r : Nat) : readB tE.data.toList (rS s r) = [] := by
  have : find tE.data.toList (rS s r).fs = none := find_bad hok good_tE
  unfold readB; rw [this]; simp
theorem ref_readE {s : St} (hok : Ok s) (ho : s.off = false) (r : Nat) : readE tE.data.toList (rS s r) = 61 := by
  have : find tE.data.toList (rS s r).fs = none := find_bad hok good_tE
  unfold readE; rw [this]; simp [rS, ho]
theorem ref_cut {s : St} (h : s.calls = -1) (ho : s.off = false) (r : Nat) {f : Fl} (hf : find tK.data.toList s.fs = some f) (k : Int) (hk : k < 0 ∨ (f.bs.length : Int) < k) : counted (rS s r) (cutOn tK.data.toList k) = (rS s r, 1) := by
  rw [rS_cnt h ho]; unfold cutOn; rw [onF_some (show find tK.data.toList (rS s r).fs = some f from hf), if_pos hk]
theorem i64_and255 (n : Int) : bits .and .i64 n 255 = n % 256 := by
  have h1 : (BitVec.ofInt 64 255).toNat = 2 ^ 8 - 1 := by decide
  have key : (BitVec.ofInt 64 n &&& BitVec.ofInt 64 255).toNat = (n % ((2 ^ 64 : Nat) : Int)).toNat % 2 ^ 8 := by
    rw [BitVec.toNat_and, BitVec.toNat_ofInt, h1, Nat.and_two_pow_sub_one_eq_mod]
  show IntKind.i64.wrap ((BitVec.ofInt 64 n &&& BitVec.ofInt 64 255).toNat : Nat) = n % 256
  rw [key, IntKind.wrap_i64]
  omega
/-- both begin with one file -/
def k0 : St := ⟨[(tK.data.toList, ⟨[107], 0⟩)], false, 0, -1, 0⟩
theorem k0_app : counted Dk.new (appendOn tK.data.toList [107]) = (k0, 0) := by
  rw [s_new, cnt_none, app_none [107] good_tK rfl (by decide)]; rfl
theorem k0_plain : Plain k0 := ⟨rfl, rfl⟩
theorem k0_room : Room 4194304 k0 := by
  intro q hq
  simp only [k0, List.mem_singleton] at hq
  subst hq
  show 1 ≤ _
  omega
end Go.Proofs.Ytgobakfffobpkaa
