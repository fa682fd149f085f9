import Derived.Test.YtgamhblkgojapaaGreatDoorGO
import Derived.Test.YtgamhblkgojapaaGreatDoorGShc
/- The small functions: copies of bytes, names, the power, a file's crash. -/
namespace Go.Proofs.YtgamhblkgojapaaGreatDoor
open Go.RowKit Dk
set_option linter.unusedVariables false
set_option linter.unusedSimpArgs false

theorem keeps_setG (w : World) (a i : Nat) (u : Value) : Keeps (fun k => k = a) w (w.setCell ⟨a, i, none⟩ u) :=
  (Keeps.refl (fun k => k = a) w).setCell (p := ⟨a, i, none⟩) (.inl rfl) u
def mkT (l : List UInt8) : Tx := ⟨l.toArray⟩
theorem mkT_data (x : Tx) : mkT x.data.toList = x := by cases x; simp [mkT]
theorem data_mkT (l : List UInt8) : (mkT l).data.toList = l := by simp [mkT]
theorem mkT_inj {a b : List UInt8} : mkT a = mkT b ↔ a = b := by
  constructor
  · intro h; have := congrArg (fun t : Tx => t.data.toList) h; simpa [mkT] using this
  · rintro rfl; rfl

theorem foldl_pushG (s : ByteArray) : ∀ ns : List Int, ns.foldl (fun r n => r.push (UInt8.ofNat n.toNat)) s = ⟨s.data ++ (ns.map fun n => UInt8.ofNat n.toNat).toArray⟩ := by
  intro ns
  induction ns generalizing s with
  | nil => simp
  | cons n r ih =>
    rw [List.foldl_cons, ih]
    simp [ByteArray.push]
theorem run_textG (w : World) (a : Option Addr) (bs : List UInt8) (n cap : Nat) (hn : n = bs.length) (hr : Row BU w a bs) :
    (convert 42 9 (.slice a n cap)).run Tryz.prog w = .ok (.string (mkT bs)) w := by
  subst hn
  rw [run_convert_bytes_string w 42 9 5 a bs.length cap Tryz.underlying42 Tryz.underlying5 Tryz.underlying9]
  match a, hr with
  | none, hr =>
    obtain rfl : bs = [] := by rcases hr with h | ⟨b, off, h, _⟩; exact h; cases h
    simp [Conv.bytesToString, mkT]
    rfl
  | some ad, hr =>
    have hload := run_loadCells_list (P := Tryz.prog) w ad (BU.cells bs) hr.news
    have e : BU.cells bs = (bs.map fun c => ((c.toNat : Nat) : Int)).map (Value.int .u8) := by rw [cells_U]; simp [bv]
    have e2 : (BU.cells bs).length = bs.length := by rw [cells_U]; simp
    rw [e2, e] at hload
    rw [run_bytesToString w ad bs.length cap _ hload, foldl_pushG]
    congr 2
    simp [mkT, Function.comp_def]

theorem clone_any (w : World) (a : Option Addr) (n c : Nat) (xs : List UInt8) (hn : n = xs.length) (hs : Sl BU w a c xs) (hb : xs.length ≤ 140737488355328) :
    Calls Tryz.prog 57 #[.slice a n c] w fun e w' => ∃ v, e = .returned v ∧ Gives BU w xs v w' := by
  have HN : Hid (n = xs.length) := hn
  have hb' : Hid (xs.length ≤ 140737488355328) := hb
  match a, hs with
  | none, hs =>
    have h0 : xs = [] := by rcases hs.row with h | ⟨b, off, h, _⟩; exact h; cases h
    have hnil := fun w => Lib.run_eql_slice_nil (P := Tryz.prog) w 42 5 none n c 0 0 Tryz.underlying42
    clear hn hb
    go_enter Tryz.func57, Tryz.ntmps57
    go_wp2_with fail
    go_ret
    subst h0
    exact ⟨_, rfl, none, 0, 0, rfl, (show 0 = _ by simp), own_nil _, new_none _, Keeps.refl _ _⟩
  | some ad, hs =>
    have hnil := fun w => Lib.run_eql_slice_nil (P := Tryz.prog) w 42 5 (some ad) n c 0 0 Tryz.underlying42
    clear hn hb
    go_enter Tryz.func57, Tryz.ntmps57
    go_wp2_with (at_builtin; refine wpList_app okU rfl _ _ rfl _ _ _ [] rfl rfl (own_empty okU _) _ _ _ xs rfl HN.out hs.nil (hs.row.keepsN ((Keeps.refl _ _).alloc _)) (by have := hb'.out; simp [BU]; omega) (by have := hb'.out; simp; omega) ?_; intro o' c' w' ho hap)
    go_ret
    have := hap.new (w0 := w) (new_fresh w _ (Nat.le_refl _) _) ((Keeps.refl _ _).alloc _)
    refine ⟨_, rfl, o', _, c', rfl, show _ = _ by simp [HN.out], by simpa using ho, this.1, this.2⟩

theorem sclone_any (w : World) (s : Tx) (h : s.size ≤ 281474976710656) :
    Calls Tryz.prog 36 #[.string s] w fun e w' => e = .returned (.string s) ∧ Keeps no w w' := by
  go_enter Tryz.func36, Tryz.ntmps36
  go_wp2_with fail
  refine (Any.stringslite_Clone Tryz.laysClone s w h).mono ?_
  rintro e w1 ⟨rfl, hb⟩
  go_wp2
  go_ret
  exact ⟨rfl, Keeps.of_below hb⟩

theorem isName_any (w : World) (s : Tx) : Calls Tryz.prog 46 #[.string s] w fun e w' => e = .returned (.bool (good s.data.toList)) ∧ w' = w := by
  have hl : s.data.toList.length = s.size := by rw [Array.length_toList]; rfl
  by_cases h1 : 1 ≤ s.size
  · by_cases h2 : s.size ≤ 32
    · go_enter Tryz.func46, Tryz.ntmps46
      go_wp2
      go_ret
      exact ⟨by simp [good, hl, h1, h2]; omega, rfl⟩
    · go_enter Tryz.func46, Tryz.ntmps46
      go_wp2
      go_ret
      exact ⟨by simp [good, hl, h1, h2]; omega, rfl⟩
  · go_enter Tryz.func46, Tryz.ntmps46
    go_wp2
    go_ret
    exact ⟨by simp [good, hl, h1], rfl⟩
/-! ### the power -/
theorem down_any (w : World) (p : Nat) (F : Nat → Prop) (s : St) (h : IsD w p F s) :
    Calls Tryz.prog 9 #[.pointer (some ⟨p, 0, none⟩)] w fun e w' => e = .returned (.bool s.off) ∧ w' = w := by
  obtain ⟨bm, c, L, h⟩ := h
  have c1 : w.cell? ⟨p, 1, none⟩ = some (.bool s.off) := cell_of_blk h.blk 1
  go_enter Tryz.func9, Tryz.ntmps9
  go_wp2
  go_ret
  exact ⟨rfl, rfl⟩
theorem DL.cells {w w' : World} {p : Nat} {F : Nat → Prop} {s s' : St} {bm : Nat} {c c' : Int} {L : LL} (h : DL w p F s bm c L) (hk : Keeps (fun k => k = p) w w') (hb : w'.heap[p]? = some (.cells (dcells bm s'.off s'.ref c' s'.keep) 64 (0, 0)))
    (hfs : s'.fs = s.fs) (hok : Ok s') (hcc : max c' (-1) = s'.calls) (hci : i64 c') (hki : i64 s'.keep) (hri : (s'.ref : Int) ≤ 9223372036854775807) : DL w' p F s' bm c' L :=
  ⟨hb, h.map.keeps hk (fun e => h.p_bm e.symm), hfs.trans h.fs, fun q hq => (h.files q hq).keeps hk ((h.files q hq).ne_p h.blk) ((h.files q hq).o_d h.blk), h.apart, h.fp, h.fm, h.ff, fun k hk' => Nat.lt_of_lt_of_le (h.lt k hk') hk.size, hok, hcc, hci, hki, hri⟩
theorem up_any (w : World) (p : Nat) (F : Nat → Prop) (s : St) (h : IsD w p F s) :
    Calls Tryz.prog 25 #[.pointer (some ⟨p, 0, none⟩)] w fun e w' => e = .returned (.tuple #[]) ∧ IsD w' p F (up s) ∧ Keeps F w w' := by
  obtain ⟨bm, c, L, h⟩ := h
  have c1 : w.cell? ⟨p, 1, none⟩ = some (.bool s.off) := cell_of_blk h.blk 1
  have c3 : w.cell? ⟨p, 3, none⟩ = some (.int .i64 c) := cell_of_blk h.blk 3
  have f1 : w.frozen? ⟨p, 1, none⟩ = false := frozen_of_blk h.blk 1
  have f3 : w.frozen? ⟨p, 3, none⟩ = false := frozen_of_blk h.blk 3
  go_enter Tryz.func25, Tryz.ntmps25
  go_wp2
  go_end0
  have hk := (keeps_setG w p 1 (.bool false)).trans (keeps_setG _ p 3 (.int .i64 (-1)))
  refine ⟨rfl, ⟨bm, -1, L, h.cells hk ?_ rfl (up_ok h.ok) (by simp [up]) (by unfold i64; omega) h.ki h.ri⟩, hk.mono (fun i e => by subst e; exact h.fp)⟩
  exact blk_set (blk_set h.blk 1 (.bool false)) 3 (.int .i64 (-1))
theorem arm_any (w : World) (p : Nat) (F : Nat → Prop) (s : St) (h : IsD w p F s) (n k : Int) (hn : i64 n) (hk : i64 k) :
    Calls Tryz.prog 19 #[.pointer (some ⟨p, 0, none⟩), .int .i64 n, .int .i64 k] w fun e w' => e = .returned (.tuple #[]) ∧ IsD w' p F (arm n k s) ∧ Keeps F w w' := by
  obtain ⟨bm, c, L, h⟩ := h
  have c3 : w.cell? ⟨p, 3, none⟩ = some (.int .i64 c) := cell_of_blk h.blk 3
  have c4 : w.cell? ⟨p, 4, none⟩ = some (.int .i64 s.keep) := cell_of_blk h.blk 4
  have f3 : w.frozen? ⟨p, 3, none⟩ = false := frozen_of_blk h.blk 3
  have f4 : w.frozen? ⟨p, 4, none⟩ = false := frozen_of_blk h.blk 4
  go_enter Tryz.func19, Tryz.ntmps19
  go_wp2
  go_end0
  have hk' := (keeps_setG w p 3 (.int .i64 n)).trans (keeps_setG _ p 4 (.int .i64 k))
  refine ⟨rfl, ⟨bm, n, L, h.cells hk' ?_ rfl (arm_ok h.ok) (by simp [arm]) hn hk h.ri⟩, hk'.mono (fun i e => by subst e; exact h.fp)⟩
  exact blk_set (blk_set h.blk 3 (.int .i64 n)) 4 (.int .i64 k)
theorem full_any (w : World) (p : Nat) (F : Nat → Prop) (s : St) (h : IsD w p F s) (n : Int) (hn : i64 n) :
    Calls Tryz.prog 21 #[.pointer (some ⟨p, 0, none⟩), .int .i64 n] w fun e w' => e = .returned (.tuple #[]) ∧ IsD w' p F (full n s) ∧ Keeps F w w' := by
  obtain ⟨bm, c, L, h⟩ := h
  have c2 : w.cell? ⟨p, 2, none⟩ = some (.int .i64 ((s.ref : Nat) : Int)) := cell_of_blk h.blk 2
  have f2 : w.frozen? ⟨p, 2, none⟩ = false := frozen_of_blk h.blk 2
  have HE : Hid (max n 0 = ((n.toNat : Nat) : Int)) := (show _ = _ by omega)
  go_enter Tryz.func21, Tryz.ntmps21
  go_wp2
  go_end0
  rw [HE.out]
  have hk := keeps_setG w p 2 (.int .i64 ((n.toNat : Nat) : Int))
  refine ⟨rfl, ⟨bm, c, L, h.cells hk ?_ rfl (full_ok h.ok) h.cc h.ci h.ki (by have := hn.2; simp [full]; omega)⟩, hk.mono (fun i e => by subst e; exact h.fp)⟩
  exact blk_set h.blk 2 (.int .i64 ((n.toNat : Nat) : Int))
theorem new_any (w : World) : Calls Tryz.prog 5 #[] w fun e w' => ∃ p, e = .returned (.pointer (some ⟨p, 0, none⟩)) ∧ IsD w' p (fun k => w.heap.size ≤ k ∧ k < w'.heap.size) Dk.new ∧ Keeps no w w' := by
  have hmm := @run_makeMap Tryz.prog
  go_enter Tryz.func5, Tryz.ntmps5
  go_wp2
  go_ret
  refine ⟨_, rfl, ⟨w.heap.size, -1, [], ?_⟩, ((Keeps.refl _ _).alloc _).alloc _⟩
  have hb := blk_new (w.alloc (.map #[] 0)) (.cells (dcells w.heap.size new.off new.ref (-1) new.keep) 64)
  rw [show (w.alloc (.map #[] 0)).heap.size = w.heap.size + 1 by simp] at hb
  refine ⟨hb, ?_, rfl, by simp, List.Pairwise.nil, by simp, by simp; omega, by simp, fun k hk => hk.2, new_ok, rfl, by unfold i64; omega, by simp [new, i64], by simp [new]⟩
  exact (World.ownsMap_made w Tryz.prog 9 R70).alloc _
end Go.Proofs.YtgamhblkgojapaaGreatDoor
/- A crash: of one file, of all. What a counted call does first. -/
namespace Go.Proofs.YtgamhblkgojapaaGreatDoor
open Go.RowKit Dk
set_option linter.unusedVariables false
set_option linter.unusedSimpArgs false

/-- a file behind a crash -/
def crLo (k : Int) (x : Dlo) : Dlo := ⟨x.p, x.o, x.c, x.bs.take (cutN k x.fl), cutN k x.fl⟩
theorem crLo_fl (k : Int) (x : Dlo) : (crLo k x).fl = crF k x.fl := rfl

set_option maxRecDepth 10000 in
theorem fcrash_any (w : World) (x : Dlo) (k : Int) (h : FileAt w x) (hs : x.sy ≤ x.bs.length) (hk : i64 k) :
    Calls Tryz.prog 44 #[.pointer (some ⟨x.p, 0, none⟩), .int .i64 k] w fun e w' => e = .returned (.tuple #[]) ∧ FileAt w' (crLo k x) ∧ Keeps (fun i => i = x.p) w w' := by
  obtain ⟨p, o, c, bs, sy⟩ := x
  obtain ⟨n, hn⟩ : ∃ n, n = bs.length := ⟨_, rfl⟩
  obtain ⟨q, hq⟩ : ∃ q, q = cutN k ⟨bs, sy⟩ := ⟨_, rfl⟩
  have hcap : n ≤ c ∧ c ≤ maxLen := ⟨hn ▸ h.own.cap.1, h.own.max⟩
  have hqv : q = sy + min k.toNat (n - sy) := by rw [hq, hn]; rfl
  have c0 : w.cell? ⟨p, 0, none⟩ = some (.slice o n c) := by rw [hn]; exact cell_of_blk h.blk 0
  have c1 : w.cell? ⟨p, 1, none⟩ = some (.int .i64 ((sy : Nat) : Int)) := cell_of_blk h.blk 1
  have f0 : w.frozen? ⟨p, 0, none⟩ = false := frozen_of_blk h.blk 0
  have f1 : w.frozen? ⟨p, 1, none⟩ = false := frozen_of_blk h.blk 1
  have hs' : sy ≤ n := by rw [hn]; exact hs
  have hm : c ≤ 9223372036854775807 := by have := hcap.2; unfold maxLen at this; omega
  have hn1 : n ≤ c := hcap.1
  have k1 := hk.1
  have k2 := hk.2
  have HN : Hid (n = bs.length) := hn
  have HQ : Hid (q = cutN k ⟨bs, sy⟩) := hq
  have HQV : Hid (((sy : Nat) : Int) + min (max k 0) ((n : Int) - sy) = ((q : Nat) : Int)) := (show _ = _ by omega)
  have hqn : q ≤ n := by omega
  have HH : Hid (FileAt w ⟨p, o, c, bs, sy⟩) := h
  clear hn hq hcap hqv h hs
  have HC : Hid (crLo k ⟨p, o, c, bs, sy⟩ = ⟨p, o, c, bs.take q, q⟩) := (show _ = _ by rw [HQ.out]; rfl)
  have HQN : Hid (q ≤ bs.length) := (show _ by rw [← HN.out]; exact hqn)
  have HK : Hid (∀ m, Keeps (fun i => i = p) w (((w.drewN m).setCell ⟨p, 1, none⟩ (.int .i64 ((q : Nat) : Int))).setCell ⟨p, 0, none⟩ (.slice o q c)).drew) := (show _ from fun m => ((((Keeps.refl (fun i => i = p) w).drewN m).trans (keeps_setG _ p 1 _)).trans (keeps_setG _ p 0 _)).drew)
  have HF : Hid (∀ m, FileAt (((w.drewN m).setCell ⟨p, 1, none⟩ (.int .i64 ((q : Nat) : Int))).setCell ⟨p, 0, none⟩ (.slice o q c)).drew (crLo k ⟨p, o, c, bs, sy⟩)) := (show _ from fun m => by
    have hb := blk_set (w := (w.drewN m).setCell ⟨p, 1, none⟩ (.int .i64 ((q : Nat) : Int))) (blk_set (w := w.drewN m) HH.out.blk 1 (.int .i64 ((q : Nat) : Int))) 0 (.slice o q c)
    have hl : (bs.take q).length = q := by rw [List.length_take, Nat.min_eq_left HQN.out]
    rw [HC.out]
    refine ⟨hb.trans ?_, (HH.out.own.cut okU HQN.out).keeps (HK.out m) (fun i hi e => HH.out.o_p HH.out i hi e)⟩
    simp [fcells, hl])
  have hcut := cutO o n c q (by omega) HH.out.own.cap.2
  go_enter Tryz.func44, Tryz.ntmps44
  go_wp2
  go_quiet (fail)
  go_wp2
  rw [HQV.out]
  go_region_with (fail)
  all_goals go_wp2
  all_goals go_end0
  all_goals exact ⟨rfl, HF.out nq, HK.out nq⟩
theorem grown_of {w w' : World} {a : Nat} (h : Keeps (fun i => i = a) w w') : w.grownBy w' (some a) := ⟨h.os, h.tape, h.output, h.size, fun i hi hne => h.block i hi (fun e => hne (by rw [e]))⟩
theorem keeps_of_grown {w w' : World} {a : Nat} (h : w.grownBy w' (some a)) : Keeps (fun i => i = a) w w' := (Keeps.refl _ w).grown h (fun k hk => .inl (by cases hk; rfl))

/-- the loop of a crash: what is still to come, what has crashed -/
def crIf (left : Lit → Bool) (k : Int) (q : Nm × Dlo) : Dlo := if left (.string q.1) then q.2 else crLo k q.2
theorem crIf_p (left : Lit → Bool) (k : Int) (q : Nm × Dlo) : (crIf left k q).p = q.2.p ∧ (crIf left k q).o = q.2.o := by
  unfold crIf; split <;> exact ⟨rfl, rfl⟩

/-- the entry that has come is a file that has not crashed yet -/
theorem crash_one {L : LL} {k : Int} {wr : World} {left : Lit → Bool} {x : Tx} {kl : Lit} {a : Option Addr} {y : DataW Unit × List MemPlace} (hL : Inc L) (hkey : keyOf Tryz.prog 9 (.string x) = some kl) (hlk : left kl = true) (hR : R70 (.pointer a) = some y) (hat : ∀ zd, (dat L).atKey kl zd = y.1) (hF : ∀ q ∈ L, FileAt wr (crIf left k q)) :
    ∃ q ∈ L, kl = .string q.1 ∧ a = some ⟨q.2.p, 0, none⟩ ∧ Hid (FileAt wr q.2) := by
  obtain rfl := key9_lit hkey
  cases hf : find x.data.toList L with
  | none =>
    have h1 := hat .nil
    have h2 := hat (.lit (.bool true))
    rw [dat_at, hf] at h1 h2
    simp only at h1 h2
    rw [← h1] at h2
    cases h2
  | some lo =>
    have h1 := hat .nil
    rw [dat_at, hf] at h1
    simp only at h1
    have hm := find_mem hf
    refine ⟨(x.data.toList, lo), hm, rfl, ?_, ?_⟩
    · rcases R70_inv hR with ⟨_, e⟩ | ⟨p, e1, e2⟩
      · rw [e] at h1; cases h1
      · rw [e2] at h1
        have h3 := congrArg (fun d : DataW Unit => match d with | .lit (.int _ z) => z | _ => 0) h1
        simp only at h3
        have hp : p = lo.p := by omega
        rw [← hp]
        injection e1
    · have := hF _ hm
      unfold crIf at this
      rw [show left (.string (x.data.toList, lo).1) = true from hlk] at this
      exact this
theorem crash_step {w wr w1 w2 : World} {p : Nat} {F : Nat → Prop} {s : St} {bm : Nat} {c : Int} {L : LL} {k : Int} {left : Lit → Bool} {cnt1 : Nat} {q : Nm × Dlo} {kl : Lit} (hD : DL w p F s bm c L) (hq : q ∈ L) (hkl : kl = .string q.1) (hlk : left kl = true) (hF : ∀ q ∈ L, FileAt wr (crIf left k q)) (hK : Keeps (fun i => ∃ q ∈ L, i = q.2.p) w wr)
    (hrg1 : w1.ranges Tryz.prog 9 R70 bm w.heap.size L.length (dat L) (fun z => left z && !z.sameKey kl) cnt1) (hg1 : wr.grownBy w1 (some w.heap.size)) (hX2 : FileAt w2 (crLo k q.2)) (hK2 : Keeps (fun i => i = q.2.p) w1 w2) :
    ∃ (left : Lit → Bool) (cnt : Nat), w2.ranges Tryz.prog 9 R70 bm w.heap.size L.length (dat L) left cnt ∧ Hid (∀ q ∈ L, FileAt w2 (crIf left k q)) ∧ Hid (Keeps (fun i => ∃ q ∈ L, i = q.2.p) w w2) := by
  subst hkl
  have hlt := fun r hr => hD.lt _ (hD.ff r hr).1
  have hbm : bm ≠ q.2.p := fun e => (hD.files q hq).ne_bm hD.map e.symm
  refine ⟨_, _, hrg1.kept (grown_of hK2) (fun e => hbm (by injection e)) (fun e => by injection e with e; have := hlt q hq; omega), ?_, ?_⟩
  · intro r hr
    by_cases hrn : r.1 = q.1
    · have e : r = q := by
        have h1 := find_of_mem hD.inc (show (r.1, r.2) ∈ L from hr)
        have h2 := find_of_mem hD.inc (show (q.1, q.2) ∈ L from hq)
        rw [hrn] at h1
        rw [h1] at h2
        injection h2 with h2
        exact Prod.ext hrn h2
      subst e
      unfold crIf
      have : (left (.string r.1) && !(Lit.string r.1).sameKey (.string r.1)) = false := by simp [Lit.sameKey]
      simp only [this]
      exact hX2
    · have hap := apart_of hD.apart hr hq hrn
      have e : crIf (fun z => left z && !z.sameKey (.string q.1)) k r = crIf left k r := by
        unfold crIf
        have : (left (.string r.1) && !(Lit.string r.1).sameKey (.string q.1)) = left (.string r.1) := by simp [Lit.sameKey, hrn]
        simp only [this]
      rw [e]
      obtain ⟨e1, e2⟩ := crIf_p left k r
      have hX1 := (hF r hr).keeps (keeps_of_grown hg1) (by rw [e1]; have := hlt r hr; omega) (by rw [e2]; intro i hi e; have := hD.lt _ ((hD.ff r hr).2 i hi); omega)
      refine hX1.keeps hK2 (by rw [e1]; exact hap.1) ?_
      intro i hi e
      subst e
      rw [e2] at hi
      exact (hD.files r hr).o_p (hD.files q hq) _ hi rfl
  · have h1 : Keeps (fun i => ∃ q ∈ L, i = q.2.p) w w1 := hK.grown hg1 (fun i hi => by cases hi; exact .inr (Nat.le_refl _))
    exact h1.then hK2 (fun i e => .inl ⟨q, hq, e⟩)
theorem crash_end {w wr w' : World} {p : Nat} {F : Nat → Prop} {s : St} {bm : Nat} {c : Int} {L : LL} {k : Int} {n : Nat} (hD : DL w p F s bm c L) (hoff : s.off = false) (hK : Keeps (fun i => ∃ q ∈ L, i = q.2.p) w wr) (hF : ∀ q ∈ L, FileAt wr (crLo k q.2)) (hm : wr.ownsMap Tryz.prog 9 R70 bm n (dat L))
    (hks : Keeps (fun i => i = p) wr w') (hb : w'.heap[p]? = some (.cells (dcells bm true s.ref (-1) s.keep) 64 (0, 0))) : IsD w' p F (crash k s) ∧ Keeps F w w' := by
  have ec : crash k s = ⟨mapv (crF k) s.fs, true, s.ref, -1, s.keep⟩ := by unfold crash; rw [hoff]; rfl
  have hbw : wr.heap[p]? = some (.cells (dcells bm s.off s.ref c s.keep) 64 (0, 0)) := hK.at hD.blk (by rintro ⟨q, hq, e⟩; exact (hD.files q hq).ne_p hD.blk e.symm)
  have hok := crash_ok (k := k) hD.ok
  refine ⟨⟨bm, -1, mapv (crLo k) L, ?_⟩, ?_⟩
  · rw [ec] at hok ⊢
    have hmem : ∀ r ∈ mapv (crLo k) L, ∃ q ∈ L, r = (q.1, crLo k q.2) := fun r hr => by
      simp only [mapv, List.mem_map] at hr
      obtain ⟨q, hq, rfl⟩ := hr
      exact ⟨q, hq, rfl⟩
    refine ⟨hb, ?_, ?_, ?_, ?_, hD.fp, hD.fm, ?_, ?_, hok, rfl, by unfold i64; omega, hD.ki, hD.ri⟩
    · have h1 : IsM wr bm L := isM_of hm
      have h2 : IsM w' bm L := h1.keeps hks (fun e => hD.p_bm e.symm)
      refine isM_of (n := L.length) ?_
      rw [dat_mapv (crLo k) (fun _ => rfl)]
      exact h2
    · show mapv (crF k) s.fs = _
      rw [hD.fs]
      simp [mapv, crLo_fl, Function.comp_def]
    · intro r hr
      obtain ⟨q, hq, rfl⟩ := hmem r hr
      exact (hF q hq).keeps hks ((hF q hq).ne_p hbw) ((hF q hq).o_d hbw)
    · simp only [mapv, List.pairwise_map]
      exact hD.apart
    · intro r hr
      obtain ⟨q, hq, rfl⟩ := hmem r hr
      exact hD.ff q hq
    · intro i hi
      exact Nat.lt_of_lt_of_le (hD.lt i hi) (Nat.le_trans hK.size hks.size)
  · refine Keeps.trans (hK.mono ?_) (hks.mono ?_)
    · rintro i ⟨q, hq, rfl⟩
      exact (hD.ff q hq).1
    · rintro i rfl
      exact hD.fp

set_option maxRecDepth 10000 in
theorem crash_on (w : World) (p : Nat) (F : Nat → Prop) (s : St) (k : Int) (h : IsD w p F s) (hoff : s.off = false) (hk : i64 k) :
    Calls Tryz.prog 17 #[.pointer (some ⟨p, 0, none⟩), .int .i64 k] w fun e w' => e = .returned (.tuple #[]) ∧ IsD w' p F (crash k s) ∧ Keeps F w w' := by
  obtain ⟨bm, c, L, h⟩ := h
  have c0 : w.cell? ⟨p, 0, none⟩ = some (.map (some bm)) := cell_of_blk h.blk 0
  have c1 : w.cell? ⟨p, 1, none⟩ = some (.bool false) := by rw [← hoff]; exact cell_of_blk h.blk 1
  have c3 : w.cell? ⟨p, 3, none⟩ = some (.int .i64 c) := cell_of_blk h.blk 3
  have f1 : w.frozen? ⟨p, 1, none⟩ = false := frozen_of_blk h.blk 1
  have f3 : w.frozen? ⟨p, 3, none⟩ = false := frozen_of_blk h.blk 3
  have HD : Hid (DL w p F s bm c L) := h
  have hmap : w.ownsMap Tryz.prog 9 R70 bm L.length (dat L) := h.map
  have HO : Hid (s.off = false) := hoff
  have HI : Hid (i64 k) := hk
  clear h hoff hk
  go_enter Tryz.func17, Tryz.ntmps17
  go_wp2_with (first | (at_range; refine wpList_range_own _ rfl _ 62 rfl 9 83 law9 Tryz.underlying62 _ bm _ _ rfl hmap ?_; intro w0 hrg0 hg0 hs0) | go_in)
  go_frame
  go_loopw [5] (fun _ wr => ∃ (left : Lit → Bool) (cnt : Nat), wr.ranges Tryz.prog 9 R70 bm w.heap.size L.length (dat L) left cnt ∧ Hid (∀ q ∈ L, FileAt wr (crIf left k q)) ∧ Hid (Keeps (fun i => ∃ q ∈ L, i = q.2.p) w wr))
    (fun _ wr => wr.rangeLeft bm w.heap.size)
  case atStart =>
    refine ⟨_, _, hrg0, ?_, (Keeps.refl _ w).grown hg0 (fun k hk => by cases hk)⟩
    intro q hq
    have : Maps.has (dat L) (.string q.1) = true := by rw [dat_has, find_of_mem HD.out.inc (show (q.1, q.2) ∈ L from hq)]; rfl
    unfold crIf
    rw [this]
    exact (HD.out.files q hq).keeps ((Keeps.refl no w).grown hg0 (fun k hk => by cases hk)) (fun h => h) (fun _ _ h => h)
  case round =>
    obtain ⟨left, cnt, hrg, HF, HK⟩ := hrel
    have hbw : wr.heap[p]? = some (.cells (dcells bm s.off s.ref c s.keep) 64 (0, 0)) := HK.out.at HD.out.blk (by rintro ⟨q, hq, e⟩; exact (HD.out.files q hq).ne_p HD.out.blk e.symm)
    have HB : Hid (wr.heap[p]? = some (.cells (dcells bm s.off s.ref c s.keep) 64 (0, 0))) := hbw
    have d1 : wr.cell? ⟨p, 1, none⟩ = some (.bool s.off) := cell_of_blk hbw 1
    have d3 : wr.cell? ⟨p, 3, none⟩ = some (.int .i64 c) := cell_of_blk hbw 3
    have g1 : wr.frozen? ⟨p, 1, none⟩ = false := frozen_of_blk hbw 1
    have g3 : wr.frozen? ⟨p, 3, none⟩ = false := frozen_of_blk hbw 3
    clear hbw
    go_wp2_with (first | (at_next; refine wpList_next_ranges _ rfl _ rfl 9 law9 R70 Value.string Value.pointer key9_inv R70_shape bm w.heap.size L.length _ _ _ rfl hrg ?_ ?_) | go_in)
    · intro _ hl0
      go_wp2
      go_end0
      have hks := (keeps_setG wr p 1 (.bool true)).trans (keeps_setG _ p 3 (.int .i64 (-1)))
      have hfin := crash_end HD.out HO.out HK.out (fun q hq => by have := HF.out q hq; unfold crIf at this; rw [hl0] at this; exact this) hrg.owns hks (blk_set (blk_set HB.out 1 (.bool true)) 3 (.int .i64 (-1)))
      exact ⟨rfl, hfin⟩
    · intro x a kl y yp w1 cnt1 hkey hlk hR hat hrg1 hlt hg1 hs1 hen
      obtain ⟨q, hqL, hqn, rfl, HX⟩ := crash_one (k := k) HD.out.inc hkey hlk hR hat HF.out
      have HQ : Hid (q ∈ L ∧ kl = .string q.1) := ⟨hqL, hqn⟩
      have hne : w.heap.size ≠ q.2.p := fun e => by have := HD.out.lt _ (HD.out.ff q hqL).1; omega
      have HX1 : Hid (FileAt w1 q.2) := (show _ from HX.out.keeps (keeps_of_grown hg1) hne.symm (fun i hi e => by have := HD.out.lt _ ((HD.out.ff q hqL).2 i hi); omega))
      have hsy : q.2.sy ≤ q.2.bs.length := HD.out.ok.sy (q.1, q.2.fl) (by rw [HD.out.fs]; exact List.mem_map.2 ⟨q, hqL, rfl⟩)
      clear hqL hqn hkey hR hat HB d1 d3 g1 g3
      go_wp2_with (go_at_call 44; refine (fcrash_any _ q.2 k HX1.out hsy HI.out).mono ?_; rintro e w2 ⟨rfl, HX2, HK2⟩)
      go_roundw
      case rel => exact crash_step HD.out HQ.out.1 HQ.out.2 hlk HF.out HK.out hrg1 hg1 HX2 HK2
      case measure => rw [(hrg1.kept (grown_of HK2) (fun e => (HD.out.files q HQ.out.1).ne_bm HD.out.map (by injection e with e; exact e.symm)) (fun e => hne (by injection e))).left_eq, hrg.left_eq]; exact hlt

theorem crash_any (w : World) (p : Nat) (F : Nat → Prop) (s : St) (k : Int) (h : IsD w p F s) (hk : i64 k) :
    Calls Tryz.prog 17 #[.pointer (some ⟨p, 0, none⟩), .int .i64 k] w fun e w' => e = .returned (.tuple #[]) ∧ IsD w' p F (crash k s) ∧ Keeps F w w' := by
  cases hoff : s.off with
  | false => exact crash_on w p F s k h hoff hk
  | true =>
    have h0 := h
    obtain ⟨bm, c, L, h⟩ := h
    have c1 : w.cell? ⟨p, 1, none⟩ = some (.bool true) := by rw [← hoff]; exact cell_of_blk h.blk 1
    have e : crash k s = s := by unfold crash; rw [hoff]; rfl
    rw [e]
    clear e
    go_enter Tryz.func17, Tryz.ntmps17
    go_wp2
    refine bodyPost_ret (results_none rfl _ _ _) rfl ?_
    exact ⟨rfl, h0, Keeps.refl _ _⟩

/-! ### what a counted call does first -/
theorem counts_any (w : World) (p : Nat) (F : Nat → Prop) (s : St) (h : IsD w p F s) :
    Calls Tryz.prog 45 #[.pointer (some ⟨p, 0, none⟩)] w fun e w' => e = .returned (.bool (!(tick s).off)) ∧ IsD w' p F (tick s) ∧ Keeps F w w' := by
  obtain ⟨bm, c, L, hd⟩ := h
  have c1 : w.cell? ⟨p, 1, none⟩ = some (.bool s.off) := cell_of_blk hd.blk 1
  have c3 : w.cell? ⟨p, 3, none⟩ = some (.int .i64 c) := cell_of_blk hd.blk 3
  have c4 : w.cell? ⟨p, 4, none⟩ = some (.int .i64 s.keep) := cell_of_blk hd.blk 4
  have f3 : w.frozen? ⟨p, 3, none⟩ = false := frozen_of_blk hd.blk 3
  have HD : Hid (DL w p F s bm c L) := hd
  have hc1 := hd.ci.1
  have hc2 := hd.ci.2
  have HCC : Hid (max c (-1) = s.calls) := hd.cc
  have HKI : Hid (i64 s.keep) := hd.ki
  by_cases h0 : c = 0
  · have et : tick s = crash s.keep s := by
      unfold tick; rw [if_pos (by have := HCC.out; omega)]
    rw [et]
    have HIS : Hid (IsD w p F s) := ⟨bm, c, L, hd⟩
    subst h0
    clear hd et
    go_enter Tryz.func45, Tryz.ntmps45
    go_wp2_with (go_at_call 17; refine (crash_any _ p F s s.keep HIS.out HKI.out).mono ?_; rintro e w1 ⟨rfl, ⟨bm1, cc1, L1, hd1⟩, HK⟩; have d1 := cell_of_blk hd1.blk 1; simp only [dcells] at d1)
    go_ret
    exact ⟨rfl, ⟨bm1, cc1, L1, hd1⟩, HK⟩
  · by_cases h1 : 0 < c
    · have et : tick s = { s with calls := s.calls - 1 } := by
        unfold tick; rw [if_neg (by have := HCC.out; omega), if_pos (by have := HCC.out; omega)]
      rw [et]
      clear hd et
      go_enter Tryz.func45, Tryz.ntmps45
      go_wp2
      go_ret
      have hks := keeps_setG w p 3 (.int .i64 (c - 1))
      have := HCC.out
      refine ⟨rfl, ⟨bm, c - 1, L, HD.out.cells hks (blk_set HD.out.blk 3 _) rfl ?_ ?_ ⟨by omega, by omega⟩ HD.out.ki HD.out.ri⟩, hks.mono (fun i e => by subst e; exact HD.out.fp)⟩
      · exact ⟨HD.out.ok.inc, HD.out.ok.len, HD.out.ok.sy, HD.out.ok.nm, by simp; omega⟩
      · simp; omega
    · have et : tick s = s := by
        unfold tick; rw [if_neg (by have := HCC.out; omega), if_neg (by have := HCC.out; omega)]
      rw [et]
      clear hd et
      go_enter Tryz.func45, Tryz.ntmps45
      go_wp2
      go_ret
      exact ⟨rfl, ⟨bm, c, L, HD.out⟩, Keeps.refl _ _⟩
end Go.Proofs.YtgamhblkgojapaaGreatDoor
/- A file found: Sync, Read, Size, Cut, Delete. -/
namespace Go.Proofs.YtgamhblkgojapaaGreatDoor
open Go.RowKit Dk
set_option linter.unusedVariables false
set_option linter.unusedSimpArgs false

def ptrOf (o : Option Dlo) : Value := match o with | none => .pointer none | some x => .pointer (some ⟨x.p, 0, none⟩)
theorem look {w : World} {bm : Nat} {L : LL} (h : IsM w bm L) (n : Tx) (hn : n.size ≤ maxLen) : (Instr.lookup 62 (.map (some bm)) (.string n) false).run Tryz.prog w = .ok (ptrOf (find n.data.toList L)) w := by
  obtain ⟨v, ps, hrun, hv⟩ := World.ownsMap.lookup h law9 Tryz.underlying62 (z := .pointer none) (Tryz.zeroValue83 w) R70_nil (key9 n hn)
  suffices hh : v = ptrOf (find n.data.toList L) by rw [hrun, hh]
  clear hrun
  rw [dat_at] at hv
  cases hf : find n.data.toList L with
  | none =>
    rw [hf] at hv
    simp only at hv
    rcases R70_inv hv with ⟨rfl, _⟩ | ⟨p, _, e⟩
    · rfl
    · cases e
  | some x =>
    rw [hf] at hv
    simp only at hv
    rcases R70_inv hv with ⟨_, e⟩ | ⟨p, rfl, e⟩
    · cases e
    · have h3 := congrArg (fun d : DataW Unit => match d with | .lit (.int _ z) => z | _ => 0) e
      simp only at h3
      have hp : x.p = p := by omega
      simp [ptrOf, hp]

/-- what 'find' tells -/
inductive Found (w : World) (p : Nat) (F : Nat → Prop) (t : St) (n : Nm) : Value → Int → Prop
  | off (h : IsD w p F t) (ho : t.off = true) : Found w p F t n (.pointer none) 62
  | none (h : IsD w p F t) (ho : t.off = false) (hf : find n t.fs = Option.none) : Found w p F t n (.pointer Option.none) 61
  | some (bm : Nat) (c : Int) (L : LL) (x : Dlo) (h : DL w p F t bm c L) (ho : t.off = false) (hf : find n L = Option.some x) : Found w p F t n (.pointer (Option.some ⟨x.p, 0, Option.none⟩)) 0
theorem find_any (w : World) (p : Nat) (F : Nat → Prop) (s : St) (n : Tx) (h : IsD w p F s) (hn : n.size ≤ maxLen) :
    Calls Tryz.prog 56 #[.pointer (some ⟨p, 0, none⟩), .string n] w fun e w' => ∃ v er, e = .returned (.tuple #[v, .int .i64 er]) ∧ Found w' p F (tick s) n.data.toList v er ∧ Keeps F w w' := by
  obtain ⟨t, ht⟩ : ∃ t, t = tick s := ⟨_, rfl⟩
  rw [← ht]
  have HT : Hid (t = tick s) := ht
  clear ht
  go_enter Tryz.func56, Tryz.ntmps56
  go_wp2_with fail
  refine (counts_any w p F s h).mono ?_
  rintro e w1 ⟨rfl, h1, HK⟩
  rw [← HT.out] at h1 ⊢
  cases ho : t.off with
  | true =>
    go_wp2
    go_ret2
    exact ⟨_, _, rfl, .off h1 ho, HK⟩
  | false =>
    obtain ⟨bm, c, L, hd⟩ := h1
    have c0 : w1.cell? ⟨p, 0, none⟩ = some (.map (some bm)) := cell_of_blk hd.blk 0
    have hl := look hd.map n hn
    have HD : Hid (DL w1 p F t bm c L) := hd
    cases hf : Dk.find n.data.toList L with
    | none =>
      rw [hf] at hl
      simp only [ptrOf] at hl
      clear hd
      go_wp2
      go_ret2
      exact ⟨_, _, rfl, .none ⟨bm, c, L, HD.out⟩ ho (by rw [HD.out.find, hf]; rfl), HK⟩
    | some x =>
      rw [hf] at hl
      simp only [ptrOf] at hl
      clear hd
      go_wp2
      go_ret2
      exact ⟨_, _, rfl, .some bm c L x HD.out ho hf, HK⟩

theorem size_any (w : World) (p : Nat) (F : Nat → Prop) (s : St) (n : Tx) (h : IsD w p F s) (hn : n.size ≤ maxLen) :
    Calls Tryz.prog 32 #[.pointer (some ⟨p, 0, none⟩), .string n] w fun e w' => e = .returned (.tuple #[.int .i64 (((readB n.data.toList (tick s)).length : Nat) : Int), .int .i64 (readE n.data.toList (tick s))]) ∧ IsD w' p F (tick s) ∧ Keeps F w w' := by
  obtain ⟨t, ht⟩ : ∃ t, t = tick s := ⟨_, rfl⟩
  rw [← ht]
  have HT : Hid (t = tick s) := ht
  clear ht
  go_enter Tryz.func32, Tryz.ntmps32
  go_wp2_with fail
  refine (find_any w p F s n h hn).mono ?_
  rintro e w1 ⟨v, er, rfl, hF, HK⟩
  rw [← HT.out] at hF
  cases hF with
  | off h ho =>
    go_wp2
    go_ret2
    exact ⟨by simp [readB, readE, ho], h, HK⟩
  | none h ho hf =>
    go_wp2
    go_ret2
    exact ⟨by simp [readB, readE, ho, hf], h, HK⟩
  | some bm c L x h ho hf =>
    have hx := (h.files _ (find_mem hf))
    have c0 : w1.cell? ⟨x.p, 0, none⟩ = some (.slice x.o x.bs.length x.c) := cell_of_blk hx.blk 0
    have hff := h.find n.data.toList
    rw [hf] at hff
    go_wp2
    go_ret2
    exact ⟨by simp [readB, readE, ho, hff, Dlo.fl], ⟨bm, c, L, h⟩, HK⟩

theorem dread_any (w : World) (p : Nat) (F : Nat → Prop) (s : St) (n : Tx) (h : IsD w p F s) (hn : n.size ≤ maxLen) (hb : (readB n.data.toList (tick s)).length ≤ 140737488355328) :
    Calls Tryz.prog 31 #[.pointer (some ⟨p, 0, none⟩), .string n] w fun e w' => ∃ o c m, e = .returned (.tuple #[.slice o m c, .int .i64 (readE n.data.toList (tick s))]) ∧ Hid (m = (readB n.data.toList (tick s)).length) ∧ Own BU w' o c (readB n.data.toList (tick s)) ∧ New w o ∧ IsD w' p F (tick s) ∧ Keeps F w w' := by
  obtain ⟨t, ht⟩ : ∃ t, t = tick s := ⟨_, rfl⟩
  rw [← ht] at hb ⊢
  have HT : Hid (t = tick s) := ht
  clear ht
  go_enter Tryz.func31, Tryz.ntmps31
  go_wp2_with fail
  refine (find_any w p F s n h hn).mono ?_
  rintro e w1 ⟨v, er, rfl, hF, HK⟩
  rw [← HT.out] at hF
  cases hF with
  | off h ho =>
    have e1 : readB n.data.toList t = [] := by simp [readB, ho]
    have e2 : readE n.data.toList t = 62 := by simp [readE, ho]
    go_wp2
    go_ret2
    rw [e1, e2]
    exact ⟨_, _, _, rfl, rfl, own_nil _, new_none _, h, HK⟩
  | none h ho hf =>
    have e1 : readB n.data.toList t = [] := by simp [readB, ho, hf]
    have e2 : readE n.data.toList t = 61 := by simp [readE, ho, hf]
    go_wp2
    go_ret2
    rw [e1, e2]
    exact ⟨_, _, _, rfl, rfl, own_nil _, new_none _, h, HK⟩
  | some bm c L x h ho hf =>
    have hx := (h.files _ (find_mem hf))
    have c0 : w1.cell? ⟨x.p, 0, none⟩ = some (.slice x.o x.bs.length x.c) := cell_of_blk hx.blk 0
    have hff := h.find n.data.toList
    rw [hf] at hff
    have e1 : readB n.data.toList t = x.bs := by simp [readB, ho, hff, Dlo.fl]
    have e2 : readE n.data.toList t = 0 := by simp [readE, ho, hff]
    rw [e1] at hb
    go_wp2_with (go_at_call 57; refine (clone_any _ _ _ _ x.bs rfl hx.own.sl hb).mono ?_; rintro e w2 ⟨v, rfl, o2, n2, c2, rfl, hn2, ho2, hnew2, hk2⟩)
    go_ret2
    rw [e1, e2]
    exact ⟨_, _, _, rfl, hn2, ho2, hnew2.of_le HK.size, IsD.keepsN ⟨bm, c, L, h⟩ hk2, HK.trans hk2.of_no⟩
end Go.Proofs.YtgamhblkgojapaaGreatDoor
/- Sync, Cut, Delete; a file laid under a name. -/
namespace Go.Proofs.YtgamhblkgojapaaGreatDoor
open Go.RowKit Dk
set_option linter.unusedVariables false
set_option linter.unusedSimpArgs false

def cT (t : St) (g : St → St × Int) : St × Int := if t.off then (t, 62) else g t
theorem counted_cT (s : St) (g : St → St × Int) : counted s g = cT (tick s) g := rfl
theorem cT_off {t : St} (h : t.off = true) (g : St → St × Int) : cT t g = (t, 62) := by unfold cT; rw [h]; rfl
theorem cT_on {t : St} (h : t.off = false) (g : St → St × Int) : cT t g = g t := by unfold cT; rw [h]; rfl
theorem onF_none {n : Nm} {t : St} (h : find n t.fs = none) (g : Fl → St × Int) : onF n t g = (t, 61) := by unfold onF; rw [h]
theorem onF_some {n : Nm} {t : St} {f : Fl} (h : find n t.fs = some f) (g : Fl → St × Int) : onF n t g = g f := by unfold onF; rw [h]

set_option maxRecDepth 10000 in
theorem sync_any (w : World) (p : Nat) (F : Nat → Prop) (s : St) (n : Tx) (h : IsD w p F s) (hn : n.size ≤ maxLen) :
    Calls Tryz.prog 41 #[.pointer (some ⟨p, 0, none⟩), .string n] w fun e w' => e = .returned (.int .i64 (counted s (syncOn n.data.toList)).2) ∧ IsD w' p F (counted s (syncOn n.data.toList)).1 ∧ Keeps F w w' := by
  obtain ⟨t, ht⟩ : ∃ t, t = tick s := ⟨_, rfl⟩
  rw [counted_cT, ← ht]
  have HT : Hid (t = tick s) := ht
  clear ht
  go_enter Tryz.func41, Tryz.ntmps41
  go_wp2_with fail
  refine (find_any w p F s n h hn).mono ?_
  rintro e w1 ⟨v, er, rfl, hF, HK⟩
  rw [← HT.out] at hF
  cases hF with
  | off h ho =>
    go_wp2
    go_ret
    rw [cT_off ho]
    exact ⟨rfl, h, HK⟩
  | none h ho hf =>
    go_wp2
    go_ret
    rw [cT_on ho, syncOn, onF_none hf]
    exact ⟨rfl, h, HK⟩
  | some bm c L x h ho hf =>
    have hx := h.files _ (find_mem hf)
    have c0 : w1.cell? ⟨x.p, 0, none⟩ = some (.slice x.o x.bs.length x.c) := cell_of_blk hx.blk 0
    have c1 : w1.cell? ⟨x.p, 1, none⟩ = some (.int .i64 ((x.sy : Nat) : Int)) := cell_of_blk hx.blk 1
    have f1 : w1.frozen? ⟨x.p, 1, none⟩ = false := frozen_of_blk hx.blk 1
    have HX : Hid (FileAt w1 x) := hx
    have HD : Hid (DL w1 p F t bm c L) := h
    clear hx h
    go_wp2
    go_ret
    have hff := HD.out.find n.data.toList
    rw [hf] at hff
    rw [cT_on ho, syncOn, onF_some hff]
    have hks := keeps_setG w1 x.p 1 (.int .i64 ((x.bs.length : Nat) : Int))
    have hx' : FileAt (w1.setCell ⟨x.p, 1, none⟩ (.int .i64 ((x.bs.length : Nat) : Int))) ⟨x.p, x.o, x.c, x.bs, x.bs.length⟩ :=
      ⟨blk_set HX.out.blk 1 _, HX.out.own.keeps hks (fun i hi e => HX.out.o_p HX.out i hi e)⟩
    have := HD.out.upd (F' := F) hf (hks.mono fun i e => .inl e) hx' rfl (fun k hk => .inl hk) (fun k hk => hk) (fun k hk => (HD.out.ff _ (find_mem hf)).2 k hk) (fun k hk => Nat.lt_of_lt_of_le (HD.out.lt k hk) hks.size)
      (by have := syncOn_ok (n := n.data.toList) HD.out.ok; rw [syncOn, onF_some hff] at this; exact this)
    exact ⟨rfl, ⟨bm, c, _, this⟩, HK.trans (hks.mono fun i e => by subst e; exact (HD.out.ff _ (find_mem hf)).1)⟩

set_option maxRecDepth 10000 in
theorem cut_any (w : World) (p : Nat) (F : Nat → Prop) (s : St) (n : Tx) (k : Int) (h : IsD w p F s) (hn : n.size ≤ maxLen) (hk : i64 k) :
    Calls Tryz.prog 35 #[.pointer (some ⟨p, 0, none⟩), .string n, .int .i64 k] w fun e w' => e = .returned (.int .i64 (counted s (cutOn n.data.toList k)).2) ∧ IsD w' p F (counted s (cutOn n.data.toList k)).1 ∧ Keeps F w w' := by
  obtain ⟨t, ht⟩ : ∃ t, t = tick s := ⟨_, rfl⟩
  rw [counted_cT, ← ht]
  have HT : Hid (t = tick s) := ht
  have k1 := hk.1
  have k2 := hk.2
  clear ht hk
  go_enter Tryz.func35, Tryz.ntmps35
  go_wp2_with fail
  refine (find_any w p F s n h hn).mono ?_
  rintro e w1 ⟨v, er, rfl, hF, HK⟩
  rw [← HT.out] at hF
  cases hF with
  | off h ho =>
    go_wp2
    go_ret
    rw [cT_off ho]
    exact ⟨rfl, h, HK⟩
  | none h ho hf =>
    go_wp2
    go_ret
    rw [cT_on ho, cutOn, onF_none hf]
    exact ⟨rfl, h, HK⟩
  | some bm c L x h ho hf =>
    have hx := h.files _ (find_mem hf)
    obtain ⟨xp, xo, xc, bs, sy⟩ := x
    obtain ⟨m, hm⟩ : ∃ m, m = bs.length := ⟨_, rfl⟩
    have c0 : w1.cell? ⟨xp, 0, none⟩ = some (.slice xo m xc) := by rw [hm]; exact cell_of_blk hx.blk 0
    have c1 : w1.cell? ⟨xp, 1, none⟩ = some (.int .i64 ((sy : Nat) : Int)) := cell_of_blk hx.blk 1
    have f0 : w1.frozen? ⟨xp, 0, none⟩ = false := frozen_of_blk hx.blk 0
    have f1 : w1.frozen? ⟨xp, 1, none⟩ = false := frozen_of_blk hx.blk 1
    have hmc : m ≤ xc := by rw [hm]; exact hx.own.cap.1
    have hcm : xc ≤ 9223372036854775807 := by have := hx.own.max; unfold maxLen at this; omega
    have hff := h.find n.data.toList
    rw [hf] at hff
    have hsy : sy ≤ m := by rw [hm]; exact (good_of h.ok hff).2
    have HX : Hid (FileAt w1 ⟨xp, xo, xc, bs, sy⟩) := hx
    have HD : Hid (DL w1 p F t bm c L) := h
    have HM : Hid (m = bs.length) := hm
    have HFF : Hid (Dk.find n.data.toList t.fs = some (⟨xp, xo, xc, bs, sy⟩ : Dlo).fl) := hff
    clear hx h hm hff
    by_cases h1 : k < 0
    · go_wp2
      go_ret
      rw [cT_on ho, cutOn, onF_some HFF.out, if_pos (.inl h1)]
      exact ⟨rfl, ⟨bm, c, L, HD.out⟩, HK⟩
    · by_cases h2 : (m : Int) < k
      · go_wp2
        go_ret
        rw [cT_on ho, cutOn, onF_some HFF.out, if_pos (.inr (by show ((bs.length : Nat) : Int) < k; rw [← HM.out]; exact h2))]
        exact ⟨rfl, ⟨bm, c, L, HD.out⟩, HK⟩
      · obtain ⟨K, rfl⟩ : ∃ K : Nat, k = K := ⟨k.toNat, by omega⟩
        have hcut := cutO xo m xc K (by omega) HX.out.own.cap.2
        have hKn : K ≤ m := by omega
        have HMI : Hid (min ((sy : Nat) : Int) ((K : Nat) : Int) = ((min sy K : Nat) : Int)) := (show _ = _ by omega)
        go_wp2
        go_ret
        rw [cT_on ho, cutOn, onF_some HFF.out, if_neg (by show ¬ (_ ∨ ((bs.length : Nat) : Int) < _); rw [← HM.out]; omega)]
        rw [HMI.out]
        have hks := (keeps_setG w1 xp 0 (.slice xo K xc)).trans (keeps_setG _ xp 1 (.int .i64 ((min sy K : Nat) : Int)))
        have hl : (bs.take K).length = K := by rw [List.length_take, ← HM.out, Nat.min_eq_left hKn]
        have hx' : FileAt ((w1.setCell ⟨xp, 0, none⟩ (.slice xo K xc)).setCell ⟨xp, 1, none⟩ (.int .i64 ((min sy K : Nat) : Int))) ⟨xp, xo, xc, bs.take K, min sy K⟩ :=
          ⟨(blk_set (blk_set HX.out.blk 0 _) 1 _).trans (by simp [fcells, hl]), (HX.out.own.cut okU (by rw [← HM.out]; exact hKn)).keeps hks (fun i hi e => HX.out.o_p HX.out i hi e)⟩
        have := HD.out.upd (F' := F) hf (hks.mono fun i e => .inl e) hx' rfl (fun k hk => .inl hk) (fun k hk => hk) (fun k hk => (HD.out.ff _ (find_mem hf)).2 k hk) (fun k hk => Nat.lt_of_lt_of_le (HD.out.lt k hk) hks.size)
          (by have := cutOn_ok (n := n.data.toList) (k := (K : Int)) HD.out.ok; rw [cutOn, onF_some HFF.out, if_neg (by show ¬ (_ ∨ ((bs.length : Nat) : Int) < _); rw [← HM.out]; omega)] at this; exact this)
        exact ⟨rfl, ⟨bm, c, _, this⟩, HK.trans (hks.mono fun i e => by subst e; exact (HD.out.ff _ (find_mem hf)).1)⟩

end Go.Proofs.YtgamhblkgojapaaGreatDoor
