/- A shot of a disk: all names, all bytes. -/
import Derived.Test.YtgobakfffobpkaaLM0
import Derived.Test.YtgobakfffobpkaaT2
namespace Go.Proofs.Ytgobakfffobpkaa
open Go.RowKit Dk
set_option linter.unusedVariables false
set_option linter.unusedSimpArgs false

theorem less_bb : ∀ a b : Nm, Op.bytesLess a b = bytesBefore a b
  | [], [] => rfl
  | [], _ :: _ => rfl
  | _ :: _, [] => rfl
  | x :: r, y :: t => by rw [Op.bytesLess, bytesBefore, less_bb r t]
/-- a shot as a value -/
structure Sh where
  on : Option Addr
  cn : Nat
  nm : List Tx
  ob : Option Addr
  cb : Nat
  ls : List (LS UInt8)
structure ShAt (w : World) (x : Sh) : Prop where
  names : Own TE w x.on x.cn x.nm
  bytes : Own XE w x.ob x.cb x.ls
  each : ∀ y ∈ x.ls, Own BE w y.o y.c y.xs
def Sh.foot (x : Sh) : Nat → Prop := fun k => inO x.on k ∨ inO x.ob k ∨ ∃ y ∈ x.ls, inO y.o k
def Sh.cells (x : Sh) : Array Value := #[.slice x.on x.nm.length x.cn, .slice x.ob x.ls.length x.cb]
theorem ShAt.keeps {S : Nat → Prop} {w w' : World} {x : Sh} (h : ShAt w x) (hk : Keeps S w w') (hS : ∀ k, x.foot k → ¬ S k) : ShAt w' x :=
  ⟨h.names.keeps hk (fun k hk1 => hS k (.inl hk1)), h.bytes.keeps hk (fun k hk1 => hS k (.inr (.inl hk1))), fun y hy => (h.each y hy).keeps hk (fun k hk1 => hS k (.inr (.inr ⟨y, hy, hk1⟩)))⟩
theorem ShAt.keepsN {w w' : World} {x : Sh} (h : ShAt w x) (hk : Keeps no w w') : ShAt w' x := h.keeps hk (fun _ _ => id)
theorem ShAt.lt {w : World} {x : Sh} (h : ShAt w x) : ∀ k, x.foot k → k < w.heap.size := by
  rintro k (hk | hk | ⟨y, hy, hk⟩)
  · exact h.names.lt k hk
  · exact h.bytes.lt k hk
  · exact (h.each y hy).lt k hk
/-- it tells all that a disk holds -/
structure Tells (x : Sh) (t : St) : Prop where
  nm : x.nm = (names t.fs).map mkT
  ls : x.ls.map (·.xs) = t.fs.map (·.2.bs)
theorem Tells.lens {x : Sh} {t : St} (h : Tells x t) : x.nm.length = t.fs.length ∧ x.ls.length = t.fs.length := by
  refine ⟨by rw [h.nm]; simp [names], ?_⟩
  have := congrArg List.length h.ls
  simpa using this

/-! ### calls of a disk that is on and not armed -/
structure Calm (t : St) : Prop where
  off : t.off = false
  tick : tick t = t
theorem calm_up (s : St) : Calm (up s) := ⟨rfl, by unfold Dk.tick up; simp⟩
theorem list_on (w : World) (p : Nat) (F : Nat → Prop) (t : St) (h : IsD w p F t) (hc : Calm t) :
    Calls Try.prog 21 #[.pointer (some ⟨p, 0, none⟩)] w fun e w' => ∃ o c m, e = .returned (.tuple #[.slice o m c, .int .i64 0]) ∧ Hid (m = t.fs.length) ∧ Own TE w' o c ((names t.fs).map mkT) ∧ New w o ∧ IsD w' p F t ∧ Keeps F w w' := by
  refine (list_any w p F t h).mono ?_
  rintro e w' ⟨o, c, m, rfl, hm, ho, hnw, hi, hk⟩
  rw [hc.tick] at hi hm ho ⊢
  have e1 : listN t = names t.fs := by simp [listN, hc.off]
  have e2 : listE t = 0 := by simp [listE, hc.off]
  rw [e1] at hm ho
  rw [e2]
  exact ⟨o, c, m, rfl, (show m = _ by rw [hm.out]; simp [names]), ho, hnw, hi, hk⟩
theorem read_on (w : World) (p : Nat) (F : Nat → Prop) (t : St) (n : Tx) (f : Fl) (h : IsD w p F t) (hc : Calm t) (hf : find n.data.toList t.fs = some f) (hn : n.size ≤ maxLen) (hb : f.bs.length ≤ 140737488355328) :
    Calls Try.prog 18 #[.pointer (some ⟨p, 0, none⟩), .string n] w fun e w' => ∃ o c m, e = .returned (.tuple #[.slice o m c, .int .i64 0]) ∧ Hid (m = f.bs.length) ∧ Own BE w' o c f.bs ∧ New w o ∧ IsD w' p F t ∧ Keeps F w w' := by
  have e1 : readB n.data.toList t = f.bs := by simp [readB, hc.off, hf]
  have e2 : readE n.data.toList t = 0 := by simp [readE, hc.off, hf]
  refine (read_any w p F t n h hn (by rw [hc.tick, e1]; exact hb)).mono ?_
  rintro e w' ⟨o, c, m, rfl, hm, ho, hnw, hi, hk⟩
  rw [hc.tick] at hi hm ho ⊢
  rw [e1] at hm ho
  rw [e2]
  exact ⟨o, c, m, rfl, hm, ho, hnw, hi, hk⟩
theorem size_on (w : World) (p : Nat) (F : Nat → Prop) (t : St) (n : Tx) (f : Fl) (m : Nat) (h : IsD w p F t) (hc : Calm t) (hf : find n.data.toList t.fs = some f) (hn : n.size ≤ maxLen) (hm : m = f.bs.length) :
    Calls Try.prog 30 #[.pointer (some ⟨p, 0, none⟩), .string n] w fun e w' => e = .returned (.tuple #[.int .i64 ((m : Nat) : Int), .int .i64 0]) ∧ IsD w' p F t ∧ Keeps F w w' := by
  have e1 : readB n.data.toList t = f.bs := by simp [readB, hc.off, hf]
  have e2 : readE n.data.toList t = 0 := by simp [readE, hc.off, hf]
  refine (size_any w p F t n h hn).mono ?_
  rintro e w' ⟨rfl, hi, hk⟩
  rw [hc.tick] at hi ⊢
  rw [e1, e2, hm]
  exact ⟨rfl, hi, hk⟩

/-- behind k rounds of a shot's loop -/
structure Shoot (w wr : World) (p : Nat) (F : Nat → Prop) (t : St) (a b : Nat) (ol : Option Addr) (cl k : Nat) (x : Sh) : Prop where
  is : IsD wr p F t
  kept : Keeps F w wr
  blk : wr.heap[b]? = some (.cells #[.slice x.on k x.cn, .slice x.ob k x.cb] 48 (0, 0))
  blk2 : wr.heap[a]? = some (.cells #[.slice none 0 0, .slice none 0 0] 48 (0, 0))
  an : w.heap.size ≤ a
  ab : a < b
  lst : Own TE wr ol cl ((names t.fs).map mkT)
  lnew : New w ol
  sh : ShAt wr x
  new : ∀ i, x.foot i → w.heap.size ≤ i
  nm : x.nm = ((names t.fs).map mkT).take k
  ls : x.ls.map (·.xs) = (t.fs.map (·.2.bs)).take k
  ap : ∀ i, inO x.on i → ¬ inO ol i
theorem Shoot.lenN {w wr : World} {p : Nat} {F : Nat → Prop} {t : St} {a b : Nat} {ol : Option Addr} {cl k : Nat} {x : Sh} (h : Shoot w wr p F t a b ol cl k x) (hk : k ≤ t.fs.length) : x.nm.length = k ∧ x.ls.length = k := by
  refine ⟨by rw [h.nm]; simp [names]; omega, ?_⟩
  have := congrArg List.length h.ls
  simp at this
  omega
/-- another call between: all that is new stands -/
theorem Shoot.step {w wr w' : World} {p : Nat} {F : Nat → Prop} {t : St} {a b : Nat} {ol : Option Addr} {cl k : Nat} {x : Sh} (h : Shoot w wr p F t a b ol cl k x) (hF : ∀ k, F k → k < w.heap.size) (hi : IsD w' p F t) (hk : Keeps F wr w') : Shoot w w' p F t a b ol cl k x :=
  ⟨hi, h.kept.trans hk, hk.at h.blk (fun hf => by have := hF _ hf; have := h.an; have := h.ab; omega), hk.at h.blk2 (fun hf => by have := hF _ hf; have := h.an; omega), h.an, h.ab, h.lst.keeps hk (fun i h1 hf => by have := hF _ hf; have := h.lnew i h1; omega), h.lnew, h.sh.keeps hk (fun i h1 hf => by have := hF _ hf; have := h.new i h1; omega), h.new, h.nm, h.ls, h.ap⟩
theorem Shoot.same {w wr w' : World} {p : Nat} {F : Nat → Prop} {t : St} {a b : Nat} {ol : Option Addr} {cl k : Nat} {x : Sh} (h : Shoot w wr p F t a b ol cl k x) (hk : Keeps no wr w') : Shoot w w' p F t a b ol cl k x :=
  ⟨h.is.keepsN hk, h.kept.trans hk.of_no, hk.at h.blk id, hk.at h.blk2 id, h.an, h.ab, h.lst.keepsN hk, h.lnew, h.sh.keepsN hk, h.new, h.nm, h.ls, h.ap⟩
theorem ne_blk {α : Type} {E : El α} {w : World} {o : Option Addr} {c : Nat} {xs : List α} (h : Own E w o c xs) {b : Nat} {cs : Array Value} {t : TypeId} {fz : Nat × Nat} (hb : w.heap[b]? = some (.cells cs t fz)) (hne : E.e ≠ t) : ¬ inO o b := by
  intro hk
  obtain ⟨ca, ha⟩ := h.tag b hk
  rw [ha] at hb
  injection hb with hb
  injection hb with _ hb _
  exact hne hb
/-- halfway: the names have one more -/
structure Half (w wr : World) (p : Nat) (F : Nat → Prop) (t : St) (a b : Nat) (ol : Option Addr) (cl k : Nat) (x : Sh) : Prop where
  is : IsD wr p F t
  kept : Keeps F w wr
  blk : wr.heap[b]? = some (.cells #[.slice x.on (k + 1) x.cn, .slice x.ob k x.cb] 48 (0, 0))
  blk2 : wr.heap[a]? = some (.cells #[.slice none 0 0, .slice none 0 0] 48 (0, 0))
  an : w.heap.size ≤ a
  ab : a < b
  lst : Own TE wr ol cl ((names t.fs).map mkT)
  lnew : New w ol
  sh : ShAt wr x
  new : ∀ i, x.foot i → w.heap.size ≤ i
  nm : x.nm = ((names t.fs).map mkT).take (k + 1)
  ls : x.ls.map (·.xs) = (t.fs.map (·.2.bs)).take k
  ap : ∀ i, inO x.on i → ¬ inO ol i
theorem Shoot.half {w wr w1 w5 : World} {p : Nat} {F : Nat → Prop} {t : St} {a b : Nat} {ol : Option Addr} {cl k : Nat} {x : Sh} {o5 : Option Addr} {c5 : Nat} {n : Tx} (h : Shoot w wr p F t a b ol cl k x) (hF : ∀ k, F k → k < w.heap.size) (hkl : k < t.fs.length) (hn : n = ((names t.fs).map mkT).getD k e0) (hk : Keeps no wr w1) (ho : Own TE w5 o5 c5 (x.nm ++ [n])) (hap : Ap w1 x.on o5 w5) :
    w5.heap[b]? = some (.cells #[.slice x.on k x.cn, .slice x.ob k x.cb] 48 (0, 0)) ∧ (∀ q v, wr.cell? q = some v → inO ol q.block → w5.cell? q = some v) ∧ ∀ w6, w6 = w5.setCell ⟨b, 0, none⟩ (.slice o5 (k + 1) c5) → Half w w6 p F t a b ol cl k ⟨o5, c5, x.nm ++ [n], x.ob, x.cb, x.ls⟩ := by
  have s1 := h.same hk
  have hkk := hap.keeps
  have hb5 := hkk.at s1.blk (ne_blk s1.sh.names s1.blk (by decide))
  refine ⟨hb5, fun q v hq hi => hkk.cell (hk.cellN hq) (fun h1 => h.ap _ h1 hi), ?_⟩
  rintro w6 rfl
  have hset := keeps_set w5 b 0 (.slice o5 (k + 1) c5)
  have hfz : ∀ i, F i → ¬ inO x.on i := fun i hf h1 => by have := hF i hf; have := h.new i (.inl h1); omega
  have hne : ∀ i, i ∈ [a] → i ≠ b := by intro i hi; simp at hi; have := h.ab; omega
  have hob5 : Own XE w5 x.ob x.cb x.ls := s1.sh.bytes.keeps hkk (ne_own s1.sh.bytes s1.sh.names (by decide))
  have hls5 : Own TE w5 ol cl ((names t.fs).map mkT) := s1.lst.keeps hkk (fun i h1 h2 => h.ap i h2 h1)
  have hey5 : ∀ y ∈ x.ls, Own BE w5 y.o y.c y.xs := fun y hy => (s1.sh.each y hy).keeps hkk (ne_own (s1.sh.each y hy) s1.sh.names (by decide))
  have hin : ∀ i, inO o5 i → inO x.on i ∨ w1.heap.size ≤ i := hap.in
  have hsz := s1.kept.size
  have hFb : ∀ i, F i → i ≠ b := fun i hf => by have := hF i hf; have := h.an; have := h.ab; omega
  refine ⟨(s1.is.keeps hkk hfz).keeps hset hFb, ((s1.kept.then hkk (fun i hi => .inr (h.new i (.inl hi)))).then hset (fun i hi => by subst hi; have := h.an; have := h.ab; exact .inr (by omega))), ?_, ?_, h.an, h.ab, ?_, h.lnew, ⟨?_, ?_, ?_⟩, ?_, ?_, h.ls, ?_⟩
  · exact blk_set hb5 0 _
  · exact hset.at (hkk.at s1.blk2 (ne_blk s1.sh.names s1.blk2 (by decide))) (by have := h.ab; omega)
  · exact hls5.keeps hset (fun i h1 e => by subst e; exact ne_blk hls5 hb5 (by decide) h1)
  · exact ho.keeps hset (fun i h1 e => by subst e; exact ne_blk ho hb5 (by decide) h1)
  · exact hob5.keeps hset (fun i h1 e => by subst e; exact ne_blk hob5 hb5 (by decide) h1)
  · intro y hy
    exact (hey5 y hy).keeps hset (fun i h1 e => by subst e; exact ne_blk (hey5 y hy) hb5 (by decide) h1)
  · rintro i (hi | hi | hi)
    · rcases hin i hi with h1 | h1
      · exact h.new i (.inl h1)
      · omega
    · exact h.new i (.inr (.inl hi))
    · exact h.new i (.inr (.inr hi))
  · show x.nm ++ [n] = _
    rw [h.nm, hn, ← take_succ_getD _ k e0 (by simp [names]; exact hkl)]
  · intro i h1 h2
    rcases hin i h1 with h3 | h3
    · exact h.ap i h3 h2
    · have := s1.lst.lt i h2; omega
theorem Half.whole {w wr w1 w5 : World} {p : Nat} {F : Nat → Prop} {t : St} {a b : Nat} {ol : Option Addr} {cl k : Nat} {x : Sh} {o5 : Option Addr} {c5 : Nat} {y : LS UInt8} (h : Half w wr p F t a b ol cl k x) (hF : ∀ k, F k → k < w.heap.size) (hkl : k < t.fs.length) (hy : y.xs = (t.fs.map (·.2.bs)).getD k []) (hk : Keeps no wr w1) (hyo : Own BE w1 y.o y.c y.xs) (hyn : New wr y.o) (ho : Own XE w5 o5 c5 (x.ls ++ [y])) (hap : Ap w1 x.ob o5 w5) :
    w5.heap[b]? = some (.cells #[.slice x.on (k + 1) x.cn, .slice x.ob k x.cb] 48 (0, 0)) ∧ ∀ w6, w6 = w5.setCell ⟨b, 1, none⟩ (.slice o5 (k + 1) c5) → Shoot w w6 p F t a b ol cl (k + 1) ⟨x.on, x.cn, x.nm, o5, c5, x.ls ++ [y]⟩ := by
  have hkk := hap.keeps
  have b1 := hk.at h.blk id
  have a1 := hk.at h.blk2 id
  have sh1 := h.sh.keepsN hk
  have l1 := h.lst.keepsN hk
  have hb5 := hkk.at b1 (ne_blk sh1.bytes b1 (by decide))
  refine ⟨hb5, ?_⟩
  rintro w6 rfl
  have hset := keeps_set w5 b 1 (.slice o5 (k + 1) c5)
  have hfz : ∀ i, F i → ¬ inO x.ob i := fun i hf h1 => by have := hF i hf; have := h.new i (.inr (.inl h1)); omega
  have hon5 : Own TE w5 x.on x.cn x.nm := sh1.names.keeps hkk (ne_own sh1.names sh1.bytes (by decide))
  have hls5 : Own TE w5 ol cl ((names t.fs).map mkT) := l1.keeps hkk (ne_own l1 sh1.bytes (by decide))
  have hey5 : ∀ z ∈ x.ls ++ [y], Own BE w5 z.o z.c z.xs := fun z hz => by
    rcases List.mem_append.1 hz with hz | hz
    · exact (sh1.each z hz).keeps hkk (ne_own (sh1.each z hz) sh1.bytes (by decide))
    · rw [List.mem_singleton.1 hz]
      exact hyo.keeps hkk (ne_own hyo sh1.bytes (by decide))
  have hin : ∀ i, inO o5 i → inO x.ob i ∨ w1.heap.size ≤ i := hap.in
  have hsz := h.kept.size
  have hsz1 := hk.size
  have hFb : ∀ i, F i → i ≠ b := fun i hf => by have := hF i hf; have := h.an; have := h.ab; omega
  refine ⟨((h.is.keepsN hk).keeps hkk hfz).keeps hset hFb, (((h.kept.trans hk.of_no).then hkk (fun i hi => .inr (h.new i (.inr (.inl hi))))).then hset (fun i hi => by subst hi; have := h.an; have := h.ab; exact .inr (by omega))), ?_, ?_, h.an, h.ab, ?_, h.lnew, ⟨?_, ?_, ?_⟩, ?_, h.nm, ?_, h.ap⟩
  · exact blk_set hb5 1 _
  · exact hset.at (hkk.at a1 (ne_blk sh1.bytes a1 (by decide))) (by have := h.ab; omega)
  · exact hls5.keeps hset (fun i h1 e => by subst e; exact ne_blk hls5 hb5 (by decide) h1)
  · exact hon5.keeps hset (fun i h1 e => by subst e; exact ne_blk hon5 hb5 (by decide) h1)
  · exact ho.keeps hset (fun i h1 e => by subst e; exact ne_blk ho hb5 (by decide) h1)
  · intro z hz
    exact (hey5 z hz).keeps hset (fun i h1 e => by subst e; exact ne_blk (hey5 z hz) hb5 (by decide) h1)
  · rintro i (hi | hi | ⟨z, hz, hi⟩)
    · exact h.new i (.inl hi)
    · rcases hin i hi with h1 | h1
      · exact h.new i (.inr (.inl h1))
      · omega
    · rcases List.mem_append.1 hz with hz | hz
      · exact h.new i (.inr (.inr ⟨z, hz, hi⟩))
      · rw [List.mem_singleton.1 hz] at hi
        have := hyn i hi
        omega
  · show (x.ls ++ [y]).map (·.xs) = _
    rw [List.map_append, h.ls, List.map_cons, List.map_nil, hy, ← take_succ_getD _ k [] (by simpa using hkl)]
end Go.Proofs.Ytgobakfffobpkaa
