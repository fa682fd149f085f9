import Derived.Test.YtoijeipoblnliaaGreatDoorYA
/- The files that 'laid' lays, in pure lists. -/
namespace Go.Proofs.YtoijeipoblnliaaGreatDoor
open Go.RowKit Orl Pk Go.Sort
set_option linter.unusedVariables false
set_option linter.unusedSimpArgs false

theorem dec_mem : ∀ (u : Nat), ∀ c ∈ Lib.decDigits u, 48 ≤ c.toNat := by
  intro u
  induction u using Nat.strongRecOn with
  | _ u ih =>
    intro c hc
    have hd : 48 ≤ (UInt8.ofNat (48 + u % 10)).toNat := by rw [UInt8.toNat_ofNat']; omega
    by_cases h : u < 10
    · rw [Lib.decDigits, dif_pos h] at hc
      simp only [List.mem_singleton] at hc
      rw [hc, show u = u % 10 by omega]; exact hd
    · rw [Lib.decDigits, dif_neg h] at hc
      rcases List.mem_append.1 hc with h1 | h1
      · exact ih (u / 10) (by omega) c h1
      · simp only [List.mem_singleton] at h1
        rw [h1]; exact hd
theorem dec_ne (u : Nat) : Lib.decDigits u ≠ [] := by
  rw [Lib.decDigits]
  split <;> simp
theorem ofNat_inj {a b : Nat} (ha : a < 256) (hb : b < 256) (h : UInt8.ofNat a = UInt8.ofNat b) : a = b := by
  have := congrArg UInt8.toNat h
  rw [UInt8.toNat_ofNat', UInt8.toNat_ofNat'] at this
  omega
theorem dec_999 {u : Nat} (h : Lib.decDigits u = [57, 57, 57]) : u = 999 := by
  have step : ∀ {v : Nat} {l : List UInt8}, l ≠ [] → Lib.decDigits v = l ++ [57] → v % 10 = 9 ∧ Lib.decDigits (v / 10) = l := by
    intro v l hl hv
    by_cases h10 : v < 10
    · rw [Lib.decDigits, dif_pos h10] at hv
      have := congrArg List.length hv
      simp at this
      exact absurd this hl
    · rw [Lib.decDigits, dif_neg h10] at hv
      have := List.append_inj' hv rfl
      refine ⟨?_, this.1⟩
      have h2 := this.2
      simp only [List.cons.injEq, and_true] at h2
      have := ofNat_inj (a := 48 + v % 10) (b := 57) (by omega) (by omega) h2
      omega
  obtain ⟨h1, e1⟩ := step (v := u) (l := [57, 57]) (by simp) h
  obtain ⟨h2, e2⟩ := step (v := u / 10) (l := [57]) (by simp) e1
  have h3 : u / 10 / 10 = 9 := by
    by_cases h10 : u / 10 / 10 < 10
    · rw [Lib.decDigits, dif_pos h10] at e2
      simp only [List.cons.injEq, and_true] at e2
      have := ofNat_inj (a := 48 + u / 10 / 10) (b := 57) (by omega) (by omega) e2
      omega
    · rw [Lib.decDigits, dif_neg h10] at e2
      have := congrArg List.length e2
      simp at this
      exact absurd this (dec_ne _)
  omega
theorem logB_nat (g : Nat) : logB (g : Int) = stemB ++ Lib.decDigits g := by rw [logB_eq, Lib.itoa_nonneg]
/-- the other files' names -/
def othN (i : Nat) : Tx := (([⟨#[115, 110, 97, 112, 46, 116, 109, 112]⟩, ⟨#[108, 111, 103, 46, 57, 57, 57]⟩, ⟨#[120]⟩, ⟨#[108, 111, 103, 46]⟩, ⟨#[115, 110, 97, 112, 50]⟩, ⟨#[108, 111, 103, 46, 49, 46, 116, 109, 112]⟩, ⟨#[83, 110, 97, 112]⟩, ⟨#[97]⟩] : List Tx)).getD i e0
def othB (i : Nat) : Dk.Nm := (othN i).data.toList
theorem oth_good (i : Nat) (h : i < 8) : Dk.good (othB i) = true := by
  have : i = 0 ∨ i = 1 ∨ i = 2 ∨ i = 3 ∨ i = 4 ∨ i = 5 ∨ i = 6 ∨ i = 7 := by omega
  rcases this with rfl | rfl | rfl | rfl | rfl | rfl | rfl | rfl <;> decide
theorem oth_snap (i : Nat) (h : i < 8) : othB i ≠ snapB := by
  have : i = 0 ∨ i = 1 ∨ i = 2 ∨ i = 3 ∨ i = 4 ∨ i = 5 ∨ i = 6 ∨ i = 7 := by omega
  rcases this with rfl | rfl | rfl | rfl | rfl | rfl | rfl | rfl <;> decide
theorem oth_log (i : Nat) (h : i < 8) (g : Nat) (hg : i = 1 → g ≠ 999) : othB i ≠ logB g := by
  rw [logB_nat]
  intro e
  have h0 := dec_ne g
  have hm := dec_mem g
  have key : ∀ l : List UInt8, othB i = stemB ++ l → l = Lib.decDigits g := fun l hl => List.append_cancel_left (hl.symm.trans e)
  have : i = 0 ∨ i = 1 ∨ i = 2 ∨ i = 3 ∨ i = 4 ∨ i = 5 ∨ i = 6 ∨ i = 7 := by omega
  rcases this with rfl | rfl | rfl | rfl | rfl | rfl | rfl | rfl
  · have := congrArg List.head? e; simp [othB, othN, stemB] at this
  · exact hg rfl (dec_999 (key [57, 57, 57] rfl).symm)
  · have := congrArg List.head? e; simp [othB, othN, stemB] at this
  · exact h0 (key [] rfl).symm
  · have := congrArg List.head? e; simp [othB, othN, stemB] at this
  · have h1 := key [49, 46, 116, 109, 112] rfl
    have := hm 46 (by rw [← h1]; simp)
    simp at this
  · have := congrArg List.head? e; simp [othB, othN, stemB] at this
  · have := congrArg List.head? e; simp [othB, othN, stemB] at this

/-- a file laid and synced on a calm disk -/
theorem app_sync {s : Dk.St} {n : Dk.Nm} {b : List UInt8} (h : On s) (hr : s.ref = 0) (hi : Dk.Inc s.fs) (hn : Dk.good n = true) (hm : Room n s) :
    Dk.counted s (Dk.appendOn n b) = (lay1 n ⟨bsOf n s ++ b, syOf n s⟩ s, 0) ∧ Dk.counted (lay1 n ⟨bsOf n s ++ b, syOf n s⟩ s) (Dk.syncOn n) = (lay1 n (fl (bsOf n s ++ b)) s, 0) := by
  refine ⟨app_on h hr hn hm, ?_⟩
  rw [sync_on (h.lay1 _ _) (find_lay1 _ _ _), lay1_lay1 hi]
  rfl
theorem lay1_len (n : Dk.Nm) (f : Dk.Fl) {s : Dk.St} (hi : Dk.Inc s.fs) : (lay1 n f s).fs.length ≤ s.fs.length + 1 := by
  show (Dk.put n f s.fs).length ≤ _
  cases hf : Dk.find n s.fs with
  | none => rw [Dk.length_put_none hf]; exact Nat.le_refl _
  | some u => rw [Dk.length_put_some hi hf]; omega
/-- a disk that takes all, the files' lengths -/
structure Lz (m : Nat) (s : Dk.St) : Prop where
  on : On s
  ref : s.ref = 0
  inc : Dk.Inc s.fs
  len : s.fs.length ≤ m
  sz : ∀ q ∈ s.fs, q.2.bs.length ≤ if q.1 = snapB then 8000000000 else 100000 + 2 * m
theorem Lz.sz' {m : Nat} {s : Dk.St} (h : Lz m s) (hm : m ≤ 100) : Sz s := by
  intro q hq
  have := h.sz q hq
  unfold szB
  split at this
  · rw [if_pos (by assumption)]; exact this
  · rw [if_neg (by assumption)]; omega
theorem Lz.room {m : Nat} {s : Dk.St} (h : Lz m s) (hm : m < 16) (n : Dk.Nm) : Room n s := fun _ => by have := h.len; omega
theorem Lz.lay {m : Nat} {s : Dk.St} (h : Lz m s) (n : Dk.Nm) (f : Dk.Fl) (hf : f.bs.length ≤ if n = snapB then 8000000000 else 100000 + 2 * (m + 1)) : Lz (m + 1) (lay1 n f s) := by
  refine ⟨h.on.lay1 _ _, h.ref, Dk.inc_put h.inc, Nat.le_trans (lay1_len n f h.inc) (by have := h.len; omega), fun q hq => ?_⟩
  rcases Dk.mem_put.1 hq with e | e
  · subst e; exact hf
  · have := h.sz q e.1
    split at this
    · rw [if_pos (by assumption)]; exact this
    · rw [if_neg (by assumption)]; omega
theorem Lz.bs {m : Nat} {s : Dk.St} (h : Lz m s) {n : Dk.Nm} (hn : n ≠ snapB) : (bsOf n s).length ≤ 100000 + 2 * m := by
  unfold bsOf
  split
  · simp
  · rename_i f hf
    have := h.sz _ (Dk.find_mem hf)
    rw [if_neg hn] at this
    exact this
theorem lz_new : Lz 0 Dk.new := ⟨on_new, rfl, by simp [Dk.new, Dk.Inc], by simp [Dk.new], fun q hq => by cases hq⟩
/-- the snapshot laid, or none -/
def snS (bs : Option (List UInt8)) : Dk.St := match bs with | none => Dk.new | some b => lay1 snapB (fl b) Dk.new
theorem snS_lz {bs : Option (List UInt8)} (h : ∀ b, bs = some b → b.length ≤ 8000000000) : Lz 1 (snS bs) := by
  cases bs with
  | none => exact ⟨on_new, rfl, by simp [snS, Dk.new, Dk.Inc], by simp [snS, Dk.new], fun q hq => by cases hq⟩
  | some b => exact lz_new.lay snapB (fl b) (by rw [if_pos rfl]; exact h b rfl)
theorem snS_snap (bs : Option (List UInt8)) : Dk.find snapB (snS bs).fs = bs.map fl := by
  cases bs with
  | none => rfl
  | some b => exact find_lay1 _ _ _
theorem snS_log (bs : Option (List UInt8)) (g : Int) : Dk.find (logB g) (snS bs).fs = none := by
  cases bs with
  | none => rfl
  | some b => show Dk.find (logB g) (lay1 snapB (fl b) Dk.new).fs = none; rw [find_lay1_ne (log_ne g)]; rfl
/-- the log's records laid behind it -/
def lgS (bs : Option (List UInt8)) (g : Nat) (rs : List Rec) : Dk.St := if rs = [] then snS bs else lay1 (logB g) (fl (rb rs)) (snS bs)
theorem rb_nil : rb [] = [] := rfl
theorem lgS_bs (bs : Option (List UInt8)) (g : Nat) (rs : List Rec) : bsOf (logB g) (lgS bs g rs) = rb rs ∧ syOf (logB g) (lgS bs g rs) = (rb rs).length := by
  unfold lgS
  split
  · rename_i e
    subst e
    unfold bsOf syOf
    rw [snS_log]
    exact ⟨rfl, rfl⟩
  · unfold bsOf syOf
    rw [find_lay1]
    exact ⟨rfl, rfl⟩
theorem lgS_lz {bs : Option (List UInt8)} (h : ∀ b, bs = some b → b.length ≤ 8000000000) (g : Nat) (rs : List Rec) (hr : (rb rs).length ≤ 100000) : Lz 2 (lgS bs g rs) := by
  unfold lgS
  split
  · have := snS_lz h
    exact ⟨this.on, this.ref, this.inc, by have := this.len; omega, fun q hq => by have := this.sz q hq; split at this <;> split <;> first | omega | contradiction⟩
  · exact (snS_lz h).lay _ _ (by rw [if_neg (log_ne g)]; show (rb rs).length ≤ _; omega)
theorem lgS_apd {bs : Option (List UInt8)} (h : ∀ b, bs = some b → b.length ≤ 8000000000) {g : Nat} (hg : (g : Int) ≤ 9223372036854775807) {rs : List Rec} (hr : (rb rs).length ≤ 100000) {r : Rec} (hgd : Gd r) : apd (logB g) r (lgS bs g rs) = (lgS bs g (rs ++ [r]), 0) := by
  have hz := lgS_lz h g rs hr
  rw [apd_on hz.inc hz.on hz.ref (log_good (by omega) hg) (hz.room (by omega) _) hgd.encE, (lgS_bs bs g rs).1, ← rb_snoc]
  congr 1
  have hne : ¬ (rs ++ [r] = []) := by simp
  unfold lgS
  rw [if_neg hne]
  split
  · rfl
  · rw [lay1_lay1 (snS_lz h).inc]
/-- a beginning of another record behind them -/
def tnS (bs : Option (List UInt8)) (g : Nat) (rs : List Rec) (k : Nat) : Dk.St := lay1 (logB g) ⟨rb rs ++ (u8s (enc torn)).take k, (rb rs).length⟩ (snS bs)
theorem lgS_torn {bs : Option (List UInt8)} (h : ∀ b, bs = some b → b.length ≤ 8000000000) {g : Nat} (hg : (g : Int) ≤ 9223372036854775807) {rs : List Rec} (hr : (rb rs).length ≤ 100000) (k : Nat) : Dk.counted (lgS bs g rs) (Dk.appendOn (logB g) ((u8s (enc torn)).take k)) = (tnS bs g rs k, 0) := by
  have hz := lgS_lz h g rs hr
  rw [app_on hz.on hz.ref (log_good (by omega) hg) (hz.room (by omega) _), (lgS_bs bs g rs).1, (lgS_bs bs g rs).2]
  congr 1
  unfold lgS tnS
  split
  · rfl
  · rw [lay1_lay1 (snS_lz h).inc]
theorem tnS_lz {bs : Option (List UInt8)} (h : ∀ b, bs = some b → b.length ≤ 8000000000) (g : Nat) (rs : List Rec) (hr : (rb rs).length ≤ 99000) (k : Nat) : Lz 2 (tnS bs g rs k) :=
  (snS_lz h).lay _ _ (by
    rw [if_neg (log_ne g)]
    show (rb rs ++ (u8s (enc torn)).take k).length ≤ _
    rw [List.length_append, List.length_take, u8s_length, torn_len]; omega)
theorem tnS_iv (bs : Option (List UInt8)) (g : Nat) (rs : List Rec) {k : Nat} (hk : k < 49) : IV g bs rs (tnS bs g rs k) := by
  refine ⟨Dk.inc_put (by cases bs with | none => simp [snS, Dk.new, Dk.Inc] | some b => exact Dk.inc_put (by simp [Dk.new, Dk.Inc])), ?_, ⟨_, k, find_lay1 _ _ _, by rw [torn_len]; exact hk, ?_, ?_, ?_⟩⟩
  · show Dk.find snapB (lay1 (logB g) _ (snS bs)).fs = _
    rw [find_lay1_ne (log_ne g).symm]; exact snS_snap bs
  · show nts (rb rs ++ (u8s (enc torn)).take k) = _
    rw [nts_append, rb_nts, nts_take, nts_u8s (enc_byt torn)]
  · show (rowb rs).length ≤ (rb rs).length
    rw [rb_len]; exact Nat.le_refl _
  · show (rb rs).length ≤ (rb rs ++ (u8s (enc torn)).take k).length
    rw [List.length_append]; omega
/-- the other files -/
def otS (s : Dk.St) : Nat → Dk.St
  | 0 => s
  | i + 1 => lay1 (othB i) (fl (bsOf (othB i) (otS s i) ++ [1, 2])) (otS s i)
theorem otS_lz {s : Dk.St} (h : Lz 2 s) : ∀ i, i ≤ 8 → Lz (2 + i) (otS s i)
  | 0, _ => h
  | i + 1, hi => by
    have ih := otS_lz h i (by omega)
    refine ih.lay _ _ ?_
    rw [if_neg (oth_snap i (by omega))]
    show (bsOf (othB i) (otS s i) ++ [1, 2]).length ≤ _
    have := ih.bs (oth_snap i (by omega))
    rw [List.length_append]
    simp only [List.length_cons, List.length_nil]
    omega
theorem otS_snap {s : Dk.St} : ∀ i, i ≤ 8 → Dk.find snapB (otS s i).fs = Dk.find snapB s.fs
  | 0, _ => rfl
  | i + 1, hi => by
    show Dk.find snapB (lay1 (othB i) _ (otS s i)).fs = _
    rw [find_lay1_ne (oth_snap i (by omega)).symm]
    exact otS_snap i (by omega)
theorem otS_iv {s : Dk.St} {g : Nat} {bs : Option (List UInt8)} {rs : List Rec} (h : IV g bs rs s) (hg : g ≠ 999) : ∀ i, i ≤ 8 → IV g bs rs (otS s i)
  | 0, _ => h
  | i + 1, hi => by
    have ih := otS_iv h hg i (by omega)
    refine ⟨Dk.inc_put ih.inc, ?_, ?_⟩
    · show Dk.find snapB (lay1 (othB i) _ (otS s i)).fs = _
      rw [find_lay1_ne (oth_snap i (by omega)).symm]; exact ih.sn
    · show ∃ f j, Dk.find (logB g) (lay1 (othB i) _ (otS s i)).fs = some f ∧ _
      rw [find_lay1_ne (oth_log i (by omega) g (fun _ => hg)).symm]; exact ih.lg
end Go.Proofs.YtoijeipoblnliaaGreatDoor
