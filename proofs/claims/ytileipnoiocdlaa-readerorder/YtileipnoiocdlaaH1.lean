import Derived.Test.YtileipnoiocdlaaA0
import Derived.Laws.ResultCell
import Derived.Laws.Rows
import Derived.Laws.Bits128
import Derived.Laws.MakeOwn
import Derived.Laws.OwnMore
import Derived.Deep.OwnRows
/- Versions and wants in memory. -/
namespace Go.Proofs.Ytileipnoiocdlaa
open Go.RowKit Go.Sort Orl
set_option linter.unusedVariables false
set_option linter.unusedSimpArgs false

theorem take_succ_getD {α : Type} (l : List α) (k : Nat) (d : α) (h : k < l.length) : l.take (k + 1) = l.take k ++ [l.getD k d] := by
  rw [List.take_add_one]; simp [h]
def inn (xs : List Tx) (s : Tx) : Bool := xs.any fun x => decide (x = s)
theorem inn_iff (xs : List Tx) (s : Tx) : inn xs s = true ↔ s ∈ xs := by
  unfold inn; rw [List.any_eq_true]; constructor
  · rintro ⟨x, hx, h⟩; rw [decide_eq_true_eq] at h; rwa [← h]
  · intro h; exact ⟨s, h, by simp⟩
theorem inn_no {xs : List Tx} {s : Tx} (h : s ∉ xs) : inn xs s = false := by
  rw [← Bool.not_eq_true, inn_iff]; exact h

/-! ### versions, as they are -/
structure Ver where
  key : Tx
  id : Nat
  val : Tx
  keys : List Tx
deriving DecidableEq
def v0 : Ver := ⟨e0, 0, e0, []⟩
abbrev Wn := ByteArray × Nat
def w0' : Wn := (e0, 0)
def WE : El Wn := ⟨50, 39, 2, 24, fun p => [.string p.1, .int .u64 (p.2 : Nat)]⟩
theorem infoW : (Try.prog.info? 50).map (fun i => (i.zero, i.size, i.bytes)) = some (some (.agg #[.string ⟨#[]⟩, .int .u64 0]), 2, 24) := by kernel_rfl
theorem okW : WE.Ok := by
  obtain ⟨i0, hi, hz0, hz1, hz2⟩ := info_parts infoW
  exact ⟨fun _ => rfl, fun x u hu => by simp [WE] at hu; rcases hu with rfl | rfl <;> rfl, by decide, Try.underlying39, i0, _, hi, hz0, hz1, hz2, rfl⟩

/-- a version's own cells -/
structure RV where
  key : Tx
  id : Nat
  val : Tx
  o : Option Addr
  n : Nat
  c : Nat
def r0 : RV := ⟨e0, 0, e0, none, 0, 0⟩
def VE : El RV := ⟨46, 40, 4, 64, fun v => [.string v.key, .int .u64 (v.id : Nat), .string v.val, .slice v.o v.n v.c]⟩
theorem infoV : (Try.prog.info? 46).map (fun i => (i.zero, i.size, i.bytes)) = some (some (.agg #[.string ⟨#[]⟩, .int .u64 0, .string ⟨#[]⟩, .slice none 0 0]), 4, 64) := by kernel_rfl
theorem okV : VE.Ok := by
  obtain ⟨i0, hi, hz0, hz1, hz2⟩ := info_parts infoV
  exact ⟨fun _ => rfl, fun x u hu => by simp [VE] at hu; rcases hu with rfl | rfl | rfl | rfl <;> rfl, by decide, Try.underlying40, i0, _, hi, hz0, hz1, hz2, rfl⟩

theorem Sl.atW {w : World} {a : Option Addr} {c : Nat} {xs : List Wn} (h : Sl WE w a c xs) {j : Nat} (hj : j < xs.length) : ∃ b off, a = some ⟨b, off, none⟩ ∧ w.cell? ⟨b, off + j * 2, none⟩ = some (.string (xs.getD j w0').1) ∧ w.cell? ⟨b, off + j * 2 + 1, none⟩ = some (.int .u64 ((xs.getD j w0').2 : Nat)) := by
  rcases h.row with e | ⟨b, off, rfl, hc⟩
  · subst e; simp at hj
  · refine ⟨b, off, rfl, hc (j * 2) _ ?_, ?_⟩
    · have := cells_at okW w0' xs j 0 hj (by decide)
      simpa [WE] using this
    · rw [Nat.add_assoc]
      refine hc (j * 2 + 1) _ ?_
      have := cells_at okW w0' xs j 1 hj (by decide)
      simpa [WE] using this
theorem Sl.atV {w : World} {a : Option Addr} {c : Nat} {xs : List RV} (h : Sl VE w a c xs) {j : Nat} (hj : j < xs.length) : ∃ b off, a = some ⟨b, off, none⟩ ∧ w.cell? ⟨b, off + j * 4, none⟩ = some (.string (xs.getD j r0).key) ∧ w.cell? ⟨b, off + j * 4 + 1, none⟩ = some (.int .u64 ((xs.getD j r0).id : Nat)) ∧ w.cell? ⟨b, off + j * 4 + 2, none⟩ = some (.string (xs.getD j r0).val) ∧ w.cell? ⟨b, off + j * 4 + 3, none⟩ = some (.slice (xs.getD j r0).o (xs.getD j r0).n (xs.getD j r0).c) := by
  rcases h.row with e | ⟨b, off, rfl, hc⟩
  · subst e; simp at hj
  · refine ⟨b, off, rfl, hc (j * 4) _ ?_, ?_, ?_, ?_⟩
    · have := cells_at okV r0 xs j 0 hj (by decide)
      simpa [VE] using this
    all_goals rw [Nat.add_assoc]
    · refine hc (j * 4 + 1) _ ?_
      have := cells_at okV r0 xs j 1 hj (by decide)
      simpa [VE] using this
    · refine hc (j * 4 + 2) _ ?_
      have := cells_at okV r0 xs j 2 hj (by decide)
      simpa [VE] using this
    · refine hc (j * 4 + 3) _ ?_
      have := cells_at okV r0 xs j 3 hj (by decide)
      simpa [VE] using this

/-- a version as it is read out of its cells -/
structure VerOf (w : World) (r : RV) (v : Ver) : Prop where
  key : r.key = v.key
  id : r.id = v.id
  val : r.val = v.val
  n : r.n = v.keys.length
  sl : Sl TE w r.o r.c v.keys
theorem VerOf.keepsN {w w' : World} {r : RV} {v : Ver} (h : VerOf w r v) (k : Keeps no w w') : VerOf w' r v := ⟨h.key, h.id, h.val, h.n, h.sl.keepsN k⟩
theorem VerOf.keeps {S : Nat → Prop} {w w' : World} {r : RV} {v : Ver} (h : VerOf w r v) (k : Keeps S w w') (hs : ∀ i, inO r.o i → ¬ S i) : VerOf w' r v := ⟨h.key, h.id, h.val, h.n, h.sl.keeps k hs⟩
/-- versions in memory -/
structure Vers (w : World) (o : Option Addr) (c : Nat) (rs : List RV) (vs : List Ver) : Prop where
  sl : Sl VE w o c rs
  len : rs.length = vs.length
  each : ∀ j, j < vs.length → VerOf w (rs.getD j r0) (vs.getD j v0)
theorem Vers.keepsN {w w' : World} {o : Option Addr} {c : Nat} {rs : List RV} {vs : List Ver} (h : Vers w o c rs vs) (k : Keeps no w w') : Vers w' o c rs vs := ⟨h.sl.keepsN k, h.len, fun j hj => (h.each j hj).keepsN k⟩
/-- the j-th version -/
theorem Vers.at {w : World} {o : Option Addr} {c : Nat} {rs : List RV} {vs : List Ver} (h : Vers w o c rs vs) {j : Nat} (hj : j < vs.length) : ∃ (b off : Nat) (ro : Option Addr) (rn rc : Nat), o = some ⟨b, off, none⟩ ∧ w.cell? ⟨b, off + j * 4, none⟩ = some (.string (vs.getD j v0).key) ∧ w.cell? ⟨b, off + j * 4 + 1, none⟩ = some (.int .u64 ((vs.getD j v0).id : Nat)) ∧ w.cell? ⟨b, off + j * 4 + 2, none⟩ = some (.string (vs.getD j v0).val) ∧ w.cell? ⟨b, off + j * 4 + 3, none⟩ = some (.slice ro rn rc) ∧ rn = (vs.getD j v0).keys.length ∧ Sl TE w ro rc (vs.getD j v0).keys := by
  obtain ⟨b, off, e, c0, c1, c2, c3⟩ := h.sl.atV (j := j) (by rw [h.len]; exact hj)
  have hv := h.each j hj
  exact ⟨b, off, (rs.getD j r0).o, (rs.getD j r0).n, (rs.getD j r0).c, e, by rw [c0, hv.key], by rw [c1, hv.id], by rw [c2, hv.val], c3, hv.n, hv.sl⟩

/-- sizes -/
structure FitV (v : Ver) : Prop where
  id : v.id < 18446744073709551616
  key : v.key.size ≤ 140737488351232
  val : v.val.size ≤ 140737488351232
  len : v.keys.length ≤ 8796093022000
  keys : ∀ s ∈ v.keys, s.size ≤ 140737488351232
structure FitL (l : List Ver) : Prop where
  len : l.length ≤ 2199023255500
  each : ∀ v ∈ l, FitV v
theorem FitL.at {l : List Ver} (h : FitL l) {j : Nat} (hj : j < l.length) : FitV (l.getD j v0) := h.each _ (getD_mem_lt v0 hj)

/-- two results, the first a struct in a cell -/
theorem results_row2 {fn : Func} {p u : Tmp} {ty : TypeId} (h : fn.results = #[.cell p ty, .tmp u]) (tmps : Array Value) (w : World) (g : Nat) (cs : Array Value)
    (hp : tmps.getD p undef = .pointer (some ⟨g, 0, none⟩)) (hl : (loadVar ty ⟨g, 0, none⟩).run Try.prog w = .ok (.agg cs) w) :
    (results fn tmps).run Try.prog w = .ok (.tuple #[.agg cs, tmps.getD u undef]) w := by
  rw [results_cell_tmp h, hp]
  simp [asAddr, hl, Result.andThen]
/-- one result, a struct in a cell -/
theorem results_row1 {fn : Func} {p : Tmp} {ty : TypeId} (h : fn.results = #[.cell p ty]) (tmps : Array Value) (w : World) (g : Nat) (cs : Array Value)
    (hp : tmps.getD p undef = .pointer (some ⟨g, 0, none⟩)) (hl : (loadVar ty ⟨g, 0, none⟩).run Try.prog w = .ok (.agg cs) w) :
    (results fn tmps).run Try.prog w = .ok (.agg cs) w := by
  have hp' : tmps[p]?.getD undef = .pointer (some ⟨g, 0, none⟩) := by simpa using hp
  simp [results, h, hp', asAddr, hl]
theorem ver_size (a b c d : Value) : (Try.prog.info? 46).map (·.size) = some (#[a, b, c, d] : Array Value).size := by
  show _ = some 4
  kernel_rfl
theorem toList_inj (x y : Tx) : x.toList = y.toList ↔ x = y := by
  rw [Lib.toList_data, Lib.toList_data]
  exact ⟨tx_ext, fun e => by rw [e]⟩
end Go.Proofs.Ytileipnoiocdlaa
/- How texts are dealt, in pure lists. -/
namespace Go.Proofs.Ytileipnoiocdlaa
open Go.RowKit Go.Sort Orl
set_option linter.unusedVariables false
set_option linter.unusedSimpArgs false

/-- FNV-1a -/
def fnvStep (h c : Nat) : Nat := (h ^^^ c) * 1099511628211 % 18446744073709551616
def fnv (h : Nat) (bs : List Nat) : Nat := bs.foldl fnvStep h
def nats (s : ByteArray) : List Nat := s.data.toList.map (·.toNat)
def hsh (s : Tx) : Nat := fnv 14695981039346656037 (nats s)
/-- a key's place among P -/
def pl (P : Nat) (s : Tx) : Nat := hsh s % P
theorem pl_lt {P : Nat} (s : Tx) (h : 0 < P) : pl P s < P := Nat.mod_lt _ h
def isT (l : List Tx) : List Tx := isort lts e0 l
def valK (l : List Tx) : Bool := decide (1 ≤ l.length ∧ l.length ≤ 1024) && (l.all fun k => decide (k.size ≤ 65535)) && rising lts (isT l)
theorem valK_iff (l : List Tx) : valK l = true ↔ (1 ≤ l.length ∧ l.length ≤ 1024) ∧ (∀ k ∈ l, k.size ≤ 65535) ∧ l.Nodup := by
  unfold valK isT
  simp only [Bool.and_eq_true, isort_rising swoT triT, List.all_eq_true, decide_eq_true_eq]
  exact ⟨fun ⟨⟨a, b⟩, c⟩ => ⟨a, b, c⟩, fun ⟨a, b, c⟩ => ⟨⟨a, b⟩, c⟩⟩
def ownOf {α : Type} (P : Nat) (key : α → Tx) (l : List α) (j : Nat) : List α := l.filter fun x => decide (pl P (key x) = j)
/-- of the first k partitions those that have some -/
def prt {α : Type} (P : Nat) (key : α → Tx) (l : List α) : Nat → List (Nat × List α)
  | 0 => []
  | k + 1 => prt P key l k ++ (if (ownOf P key l k).isEmpty = true then [] else [(k, ownOf P key l k)])
theorem prt_len {α : Type} (P : Nat) (key : α → Tx) (l : List α) : ∀ k, (prt P key l k).length ≤ k
  | 0 => Nat.le_refl _
  | k + 1 => by
    have := prt_len P key l k
    rw [prt, List.length_append]
    split <;> simp <;> omega
theorem prt_mem {α : Type} (P : Nat) (key : α → Tx) (l : List α) : ∀ k, ∀ p ∈ prt P key l k, p.1 < k ∧ p.2 = ownOf P key l p.1 ∧ p.2 ≠ []
  | 0, p, hp => by cases hp
  | k + 1, p, hp => by
    rw [prt] at hp
    rcases List.mem_append.1 hp with h | h
    · have := prt_mem P key l k p h
      exact ⟨by omega, this.2⟩
    · split at h
      · cases h
      · rename_i hne
        rcases List.mem_cons.1 h with rfl | h
        · exact ⟨by simp, rfl, fun e => hne (by simp only at e; rw [e]; rfl)⟩
        · cases h
theorem prt_has {α : Type} (P : Nat) (key : α → Tx) (l : List α) (j : Nat) (hj : ownOf P key l j ≠ []) : ∀ k, j < k → (j, ownOf P key l j) ∈ prt P key l k
  | 0, h => by omega
  | k + 1, h => by
    rw [prt]
    by_cases e : j = k
    · subst e
      refine List.mem_append_right _ ?_
      rw [if_neg (by simpa using hj)]
      simp
    · exact List.mem_append_left _ (prt_has P key l j hj k (by omega))
end Go.Proofs.Ytileipnoiocdlaa
/- A key's place (ported from stage 5). -/
namespace Go.Proofs.Ytileipnoiocdlaa
open Go.RowKit Go.Sort Orl
set_option linter.unusedVariables false
set_option linter.unusedSimpArgs false

theorem ret_u64 {a b : Int} (h : a = b) : Ending.returned (.int .u64 a) = .returned (.int .u64 b) := by rw [h]
theorem ret_i64 {a b : Int} (h : a = b) : Ending.returned (.int .i64 a) = .returned (.int .i64 b) := by rw [h]
theorem bits_xor_nat64 (a b : Nat) (ha : a < 18446744073709551616) (hb : b < 18446744073709551616) : bits .xor .u64 (a : Int) (b : Int) = ((a ^^^ b : Nat) : Int) := by
  have := u64_xor_nat a b ha hb
  exact this
theorem fnvStep_lt (h c : Nat) : fnvStep h c < 18446744073709551616 := Nat.mod_lt _ (by decide)
theorem fnv_append (h : Nat) (a b : List Nat) : fnv h (a ++ b) = fnv (fnv h a) b := List.foldl_append
theorem fnv_one (h c : Nat) : fnv h [c] = fnvStep h c := by rw [fnv, List.foldl_cons, List.foldl_nil]
theorem fnv_lt (bs : List Nat) : ∀ h, h < 18446744073709551616 → fnv h bs < 18446744073709551616 := by
  induction bs with
  | nil => intro h hh; exact hh
  | cons c bs ih => intro h _; exact ih _ (fnvStep_lt _ _)
theorem fnv_snoc (h : Nat) (s : ByteArray) (k : Nat) (hk : k < s.size) : fnv h ((nats s).take (k + 1)) = fnvStep (fnv h ((nats s).take k)) s[k].toNat := by
  have hl : k < (nats s).length := by simpa [nats] using hk
  have e : (nats s)[k] = s[k].toNat := by simp [nats]; rfl
  rw [List.take_succ_eq_append_getElem hl, fnv_append, e, fnv_one]
theorem feed_num (g c : Nat) (hg : g < 18446744073709551616) (hc : c < 256) : IntKind.u64.wrap (bits .xor .u64 (g : Int) (c : Int) * 1099511628211) = (fnvStep g c : Nat) := by
  rw [bits_xor_nat64 g c hg (by omega), IntKind.wrap_u64]
  unfold fnvStep
  omega
theorem feed_any (h : Nat) (s : ByteArray) (hh : h < 18446744073709551616) (w : World) (hs : s.size ≤ maxLen) :
    Calls Try.prog 101 #[.int .u64 (h : Int), .string s] w fun e w' => e = .returned (.int .u64 (fnv h (nats s) : Nat)) ∧ w' = w := by
  unfold maxLen at hs
  go_enter Try.func101, Try.ntmps101
  go_wp2_with fail
  go_loop [0, 8] (fun r i => ∃ k : Nat, k ≤ s.size ∧ i = .int .i64 k ∧ r = .int .u64 (fnv h ((nats s).take k) : Nat)) (fun _ i => s.size - (intOf i).toNat)
  case atStart => exact ⟨0, by omega, rfl, rfl⟩
  case round =>
    obtain ⟨k, hk, rfl, rfl⟩ := hrel
    have hrl := fnv_lt ((nats s).take k) h hh
    obtain ⟨r, hr⟩ : ∃ r, r = fnv h ((nats s).take k) := ⟨_, rfl⟩
    rw [← hr] at hrl ⊢
    have HR : Hid (r = fnv h ((nats s).take k)) := hr
    clear hr
    by_cases h2 : k < s.size
    · have HS : Hid (fnv h ((nats s).take (k + 1)) = fnvStep (fnv h ((nats s).take k)) s[k].toNat) := fnv_snoc h s k h2
      have hu : s[k].toNat < 256 := s[k].toNat_lt
      go_wp2
      go_round
      case rel => exact ⟨k + 1, by omega, by go_num, by rw [HS.out, feed_num r _ hrl hu, HR.out]⟩
      case measure => simp [intOf]; omega
    · go_wp2_with fail
      go_ret
      obtain rfl : k = s.size := by omega
      exact ⟨ret_u64 (by rw [HR.out, List.take_of_length_le (by simp [nats])]), rfl⟩
theorem begin_any (w : World) : Calls Try.prog 102 #[] w fun e w' => e = .returned (.int .u64 (14695981039346656037 : Nat)) ∧ w' = w := by
  go_enter Try.func102, Try.ntmps102
  go_wp2
  go_ret
  exact ⟨rfl, rfl⟩
theorem hsh_lt (s : Tx) : hsh s < 18446744073709551616 := fnv_lt _ _ (by decide)
theorem hash_any (s : ByteArray) (w : World) (hs : s.size ≤ maxLen) :
    Calls Try.prog 97 #[.string s] w fun e w' => e = .returned (.int .u64 (hsh s : Nat)) ∧ w' = w := by
  go_enter Try.func97, Try.ntmps97
  go_wp2_with (first | (go_at_call 102; go_must (refine (begin_any _).mono ?_); rintro e w' ⟨rfl, rfl⟩) | (go_at_call 101; go_must (refine (feed_any 14695981039346656037 s (by decide) _ hs).mono ?_); rintro e w' ⟨rfl, rfl⟩))
  go_ret
  exact ⟨rfl, rfl⟩
theorem pl_num (h P : Nat) (hh : h < 18446744073709551616) (h1 : 0 < P) (h2 : P ≤ 64) : ((h : Int) % (P : Int)) = ((h % P : Nat) : Int) := by omega
theorem may_any (n : Int) (w : World) : Calls Try.prog 71 #[.int .i64 n] w fun e w' => e = .returned (.bool (decide (1 ≤ n ∧ n ≤ 64))) ∧ w' = w := by
  by_cases h : 1 ≤ n
  · by_cases h2 : n ≤ 64
    · have hd : decide (1 ≤ n ∧ n ≤ 64) = true := by simp [h, h2]
      rw [hd]
      go_enter Try.func71, Try.ntmps71
      go_wp2
      go_ret
      exact ⟨rfl, rfl⟩
    · have hd : decide (1 ≤ n ∧ n ≤ 64) = false := by simp [h2]
      rw [hd]
      go_enter Try.func71, Try.ntmps71
      go_wp2
      go_ret
      exact ⟨rfl, rfl⟩
  · have hd : decide (1 ≤ n ∧ n ≤ 64) = false := by simp [h]
    rw [hd]
    go_enter Try.func71, Try.ntmps71
    go_wp2
    go_ret
    exact ⟨rfl, rfl⟩
theorem may_yes (P : Nat) (h1 : 0 < P) (h2 : P ≤ 64) (w : World) : Calls Try.prog 71 #[.int .i64 (P : Int)] w fun e w' => e = .returned (.bool true) ∧ w' = w := by
  refine (may_any P w).mono ?_
  rintro e w' ⟨rfl, rfl⟩
  have : decide (1 ≤ (P : Int) ∧ (P : Int) ≤ 64) = true := by simp; omega
  rw [this]; exact ⟨rfl, rfl⟩
theorem may_no (n : Int) (h : ¬ (1 ≤ n ∧ n ≤ 64)) (w : World) : Calls Try.prog 71 #[.int .i64 n] w fun e w' => e = .returned (.bool false) ∧ w' = w := by
  refine (may_any n w).mono ?_
  rintro e w' ⟨rfl, rfl⟩
  have : decide (1 ≤ n ∧ n ≤ 64) = false := by simpa using h
  rw [this]; exact ⟨rfl, rfl⟩

theorem place_any (s : Tx) (P : Nat) (h1 : 0 < P) (h2 : P ≤ 64) (w : World) (hs : s.size ≤ maxLen) :
    Calls Try.prog 87 #[.string s, .int .i64 (P : Int)] w fun e w' => e = .returned (.int .i64 (pl P s : Nat)) ∧ w' = w := by
  have hh := hsh_lt s
  have HP : Hid (pl P s = hsh s % P) := rfl
  obtain ⟨q, hq⟩ : ∃ q, q = pl P s := ⟨_, rfl⟩
  obtain ⟨h, hhh⟩ : ∃ h, h = hsh s := ⟨_, rfl⟩
  have hql : q < P := by rw [hq]; exact pl_lt s h1
  rw [← hq]
  have HQ : Hid (q = h % P) := show _ = _ by rw [hq, hhh]; rfl
  rw [← hhh] at hh
  have HH : Hid (h = hsh s) := hhh
  clear hq hhh HP
  have hrem : ((h : Int) % (P : Int)) = (q : Int) := by rw [pl_num h P hh h1 h2, HQ.out]
  have hrem' : ((h : Int).tmod (P : Int)) = (q : Int) := by rw [Int.tmod_eq_emod_of_nonneg (by omega), hrem]
  have hP0 : ¬ (P : Int) = 0 := by omega
  go_enter Try.func87, Try.ntmps87
  go_wp2_with (go_at_call 97; go_must (refine (hash_any s _ hs).mono ?_); rintro e w' ⟨rfl, rfl⟩; rw [← HH.out])
  go_ret
  exact ⟨rfl, rfl⟩

def ofA (s : Tx) (n : Int) : Int := if 1 ≤ n ∧ n ≤ 64 then (pl n.toNat s : Nat) else 0
def ofE (n : Int) : Int := if 1 ≤ n ∧ n ≤ 64 then 0 else 1
theorem of_yes (s : Tx) (P : Nat) (h1 : 0 < P) (h2 : P ≤ 64) (w : World) (hs : s.size ≤ maxLen) :
    Calls Try.prog 70 #[.string s, .int .i64 (P : Int)] w fun e w' => e = .returned (.tuple #[.int .i64 (pl P s : Nat), .int .i64 0]) ∧ w' = w := by
  go_enter Try.func70, Try.ntmps70
  go_wp2_with (first | (go_at_call 71; go_must (refine (may_yes P h1 h2 _).mono ?_); rintro e w' ⟨rfl, rfl⟩) | (go_at_call 87; go_must (refine (place_any s P h1 h2 _ hs).mono ?_); rintro e w' ⟨rfl, rfl⟩))
  go_ret2
  exact ⟨rfl, rfl⟩
theorem of_no (s : Tx) (n : Int) (h : ¬ (1 ≤ n ∧ n ≤ 64)) (w : World) :
    Calls Try.prog 70 #[.string s, .int .i64 n] w fun e w' => e = .returned (.tuple #[.int .i64 0, .int .i64 1]) ∧ w' = w := by
  have H : Hid (¬ (1 ≤ n ∧ n ≤ 64)) := h
  clear h
  go_enter Try.func70, Try.ntmps70
  go_wp2_with (go_at_call 71; go_must (refine (may_no n H.out _).mono ?_); rintro e w' ⟨rfl, rfl⟩)
  go_ret2
  exact ⟨rfl, rfl⟩
end Go.Proofs.Ytileipnoiocdlaa
