import Derived.Test.YtagekdmkidbhpaaKs
/- A store in memory. -/
namespace Go.Proofs.Ytagekdmkidbhpaa
open Go.RowKit Go.Maps
set_option linter.unusedVariables false
set_option linter.unusedSimpArgs false

/-! ### what a store holds -/
structure Vr where
  val : Tx
  keys : List Tx
  stamp : Int
structure St where
  V : Mk → Option Vr
  last : Tx → Nat
def St.new : St := ⟨fun _ => none, fun _ => 0⟩
def St.add (s : St) (m : Mk) (v : Vr) : St := { s with V := fun z => if z = m then some v else s.V z }

/-! ### in memory -/
structure MV where
  val : Tx
  o : Option Addr
  c : Nat
  keys : List Tx
  stamp : Int
def MV.vr (v : MV) : Vr := ⟨v.val, v.keys, v.stamp⟩
structure Ln where
  p : Nat
  last : Nat
  o : Option Addr
  c : Nat
  fr : List Nat
def vvV (v : MV) : Value := .agg #[.string v.val, .slice v.o v.keys.length v.c, .int .i64 v.stamp]
def vvL (x : Ln) : Value := .pointer (some ⟨x.p, 0, none⟩)
def vvW (x : Nat × List Tx) : Value := .map (some x.1)
def vvU (_ : Unit) : Value := .agg #[]
def IE : El Nat := ⟨35, 94, 1, 8, fun n => [.int .u64 ((n : Nat) : Int)]⟩
theorem infoI : (Try.prog.info? 35).map (fun i => (i.zero, i.size, i.bytes)) = some (some (.int .u64 0), 1, 8) := by kernel_rfl
theorem okI : IE.Ok := by
  obtain ⟨i0, hi, hz0, hz1, hz2⟩ := info_parts infoI
  exact ⟨fun _ => rfl, fun x u hu => by simp [IE] at hu; subst hu; rfl, by decide, Try.underlying94, i0, _, hi, hz0, hz1, hz2, rfl⟩
theorem Sl.oneG {α : Type} {E : El α} {w : World} {a : Option Addr} {c : Nat} {xs : List α} (h : Sl E w a c xs) (hx : E.Ok) (hk : E.k = 1) (d : α) {j : Nat} (hj : j < xs.length) (u : Value) (hu : E.enc (xs.getD j d) = [u]) : ∃ b off, a = some ⟨b, off, none⟩ ∧ w.cell? ⟨b, off + j, none⟩ = some u := by
  rcases h.row with e | ⟨b, off, rfl, hc⟩
  · subst e; simp at hj
  · refine ⟨b, off, rfl, hc j _ ?_⟩
    have := cells_at hx d xs j 0 hj (by omega)
    rw [hk, hu] at this
    simpa using this
theorem Sl.atI {w : World} {a : Option Addr} {c : Nat} {xs : List Nat} (h : Sl IE w a c xs) {j : Nat} (hj : j < xs.length) : ∃ b off, a = some ⟨b, off, none⟩ ∧ w.cell? ⟨b, off + j, none⟩ = some (.int .u64 ((xs.getD j 0 : Nat) : Int)) := h.oneG okI rfl 0 hj _ rfl
theorem Own.tag {α : Type} {E : El α} {w : World} {o : Option Addr} {c : Nat} {xs : List α} (h : Own E w o c xs) : ∀ k, inO o k → ∃ cur, w.heap[k]? = some (.cells cur E.e (0, 0)) := by
  rintro k ⟨x, e, rfl⟩
  rcases h.shape with ⟨e', _⟩ | ⟨g, cur, e', hg, _⟩
  · rw [e'] at e; cases e
  · rw [e'] at e; cases e; exact ⟨cur, hg⟩
theorem Own.max {α : Type} {E : El α} {w : World} {o : Option Addr} {c : Nat} {xs : List α} (h : Own E w o c xs) : c ≤ maxLen := by
  rcases h.shape with ⟨_, e, _⟩ | ⟨g, cur, _, _, _, h3, _⟩
  · omega
  · exact h3
def lcells (x : Ln) : Array Value := #[.int .u64 ((x.last : Nat) : Int), .slice x.o x.fr.length x.c]
structure LineAt (w : World) (x : Ln) : Prop where
  blk : w.heap[x.p]? = some (.cells (lcells x) 96 (0, 0))
  own : Own IE w x.o x.c x.fr
theorem LineAt.keeps {S : Nat → Prop} {w w' : World} {x : Ln} (h : LineAt w x) (hk : Keeps S w w') (hp : ¬ S x.p) (ho : ∀ k, inO x.o k → ¬ S k) : LineAt w' x := ⟨hk.at h.blk hp, h.own.keeps hk ho⟩

/-- whose a block is -/
inductive Ro where
  | pt | vm | lm | wm | ky
  | ln (k : Tx) | fr (k : Tx)
  | st (i : Nat)
structure Lay where
  vm : Nat
  lm : Nat
  wm : Nat
  V : List (Mk × MV)
  L : List (Tx × Ln)
  W : List (Nat × (Nat × List Tx))
def setL (l : List Tx) : List (Tx × Unit) := l.map fun k => (k, ())
def scells (y : Lay) : Array Value := #[.map (some y.vm), .map (some y.lm), .map (some y.wm)]
def lastOf (L : List (Tx × Ln)) (k : Tx) : Nat := match fnd k L with | some x => x.last | none => 0
structure SL (w : World) (p : Nat) (T : Nat → Option Ro) (s : St) (N : Nat) (y : Lay) : Prop where
  blk : w.heap[p]? = some (.cells (scells y) 77 (0, 0))
  mv : IsMp KM vvV w y.vm y.V
  ml : IsMp KT vvL w y.lm y.L
  mw : IsMp KI vvW w y.wm y.W
  line : ∀ q ∈ y.L, LineAt w q.2
  set : ∀ q ∈ y.W, IsMp KT vvU w q.2.1 (setL q.2.2)
  key : ∀ q ∈ y.V, Sl TE w q.2.o q.2.c q.2.keys ∧ ∀ b, inO q.2.o b → T b = some .ky
  tp : T p = some .pt
  tv : T y.vm = some .vm
  tl : T y.lm = some .lm
  tw : T y.wm = some .wm
  tln : ∀ q ∈ y.L, T q.2.p = some (.ln q.1) ∧ ∀ b, inO q.2.o b → T b = some (.fr q.1)
  tst : ∀ q ∈ y.W, T q.2.1 = some (.st q.1)
  lt : ∀ b, T b ≠ none → b < w.heap.size
  sv : ∀ m, s.V m = (fnd m y.V).map MV.vr
  sl : ∀ k, s.last k = lastOf y.L k
  hv : ∀ k i, s.V (k, i) ≠ none → ∃ x, fnd k y.L = some x
  fr : ∀ q ∈ y.L, Hp.Heap q.2.fr ∧ q.2.fr.Nodup ∧ ∀ i, i ∈ q.2.fr ↔ ∃ v, s.V (q.1, i) = some v ∧ v.stamp = -1
  sw : ∀ i k, s.V (k, i) ≠ none ↔ ∃ x, fnd i y.W = some x ∧ k ∈ x.2
  wn : ∀ q ∈ y.W, q.2.2 ≠ []
  la : ∀ q ∈ y.L, q.2.last < 18446744073709551616
  lv : ∀ q ∈ y.L, ∃ i, s.V (q.1, i) ≠ none
  nv : y.V.length ≤ N
  nl : y.L.length ≤ N
  nw : y.W.length ≤ N
  ns : ∀ q ∈ y.W, q.2.2.length ≤ N
  nf : ∀ q ∈ y.L, q.2.fr.length ≤ N
def IsS (w : World) (p : Nat) (T : Nat → Option Ro) (s : St) (N : Nat) : Prop := ∃ y, SL w p T s N y

theorem SL.keeps {S : Nat → Prop} {w w' : World} {p : Nat} {T : Nat → Option Ro} {s : St} {N : Nat} {y : Lay} (h : SL w p T s N y) (hk : Keeps S w w') (hS : ∀ b, T b ≠ none → ¬ S b) : SL w' p T s N y := by
  have hn : ∀ {b r}, T b = some r → ¬ S b := fun {b r} e => hS b (by rw [e]; simp)
  exact { h with
    blk := hk.at h.blk (hn h.tp)
    mv := h.mv.keeps hk (hn h.tv)
    ml := h.ml.keeps hk (hn h.tl)
    mw := h.mw.keeps hk (hn h.tw)
    line := fun q hq => (h.line q hq).keeps hk (hn (h.tln q hq).1) (fun b hb => hn ((h.tln q hq).2 b hb))
    set := fun q hq => (h.set q hq).keeps hk (hn (h.tst q hq))
    key := fun q hq => ⟨(h.key q hq).1.keeps hk (fun b hb => hn ((h.key q hq).2 b hb)), (h.key q hq).2⟩
    lt := fun b hb => Nat.lt_of_lt_of_le (h.lt b hb) hk.size }
theorem IsS.keeps {S : Nat → Prop} {w w' : World} {p : Nat} {T : Nat → Option Ro} {s : St} {N : Nat} (h : IsS w p T s N) (hk : Keeps S w w') (hS : ∀ b, T b ≠ none → ¬ S b) : IsS w' p T s N := by
  obtain ⟨y, h⟩ := h
  exact ⟨y, h.keeps hk hS⟩
theorem IsS.keepsN {w w' : World} {p : Nat} {T : Nat → Option Ro} {s : St} {N : Nat} (h : IsS w p T s N) (hk : Keeps no w w') : IsS w' p T s N := h.keeps hk (fun _ _ => id)
theorem IsS.lt {w : World} {p : Nat} {T : Nat → Option Ro} {s : St} {N : Nat} (h : IsS w p T s N) : ∀ b, T b ≠ none → b < w.heap.size := by
  obtain ⟨y, h⟩ := h
  exact h.lt
theorem SL.more {w : World} {p : Nat} {T : Nat → Option Ro} {s : St} {N M : Nat} {y : Lay} (h : SL w p T s N y) (hM : N ≤ M) : SL w p T s M y :=
  { h with nv := Nat.le_trans h.nv hM, nl := Nat.le_trans h.nl hM, nw := Nat.le_trans h.nw hM, ns := fun q hq => Nat.le_trans (h.ns q hq) hM, nf := fun q hq => Nat.le_trans (h.nf q hq) hM }
theorem IsS.more {w : World} {p : Nat} {T : Nat → Option Ro} {s : St} {N M : Nat} (h : IsS w p T s N) (hM : N ≤ M) : IsS w p T s M := by
  obtain ⟨y, h⟩ := h
  exact ⟨y, h.more hM⟩
/-- unlike tags, unlike blocks -/
theorem tag_ne {T : Nat → Option Ro} {a b : Nat} {r s : Ro} (ha : T a = some r) (hb : T b = some s) (h : r ≠ s) : a ≠ b := by
  rintro rfl; rw [ha] at hb; injection hb with hb; exact h hb
theorem SL.okM {w : World} {p : Nat} {T : Nat → Option Ro} {s : St} {N : Nat} {y : Lay} (h : SL w p T s N y) {m : Mk} (hm : s.V m ≠ none) : KM.ok m := by
  rw [h.sv] at hm
  cases hf : fnd m y.V with
  | none => rw [hf] at hm; exact absurd rfl hm
  | some v => exact h.mv.ko _ (fnd_mem hf)
/-- a map of the same, with what the values stand for told anew -/
theorem perm_cons_del {κ β : Type} [DecidableEq κ] {k : κ} {x : β} : ∀ {L : List (κ × β)}, Nk L → fnd k L = some x → L.Perm ((k, x) :: del k L)
  | [], _, h => by simp [fnd] at h
  | p :: r, hn, h => by
    obtain ⟨h1, h2⟩ := List.pairwise_cons.1 hn
    simp only [fnd] at h
    by_cases hp : p.1 = k
    · rw [if_pos hp] at h
      have e1 : del k (p :: r) = del k r := by simp [del, hp]
      have e2 : p = (k, x) := by rw [← hp]; injection h with h; rw [← h]
      rw [e1, del_none (fnd_none.2 fun q hq e => h1 q hq (by rw [hp, e])), ← e2]
    · rw [if_neg hp] at h
      have e1 : del k (p :: r) = p :: del k r := by simp [del, hp]
      rw [e1]
      exact ((perm_cons_del h2 h).cons p).trans (List.Perm.swap _ _ _)
theorem IsMp.same {κ β : Type} [DecidableEq κ] {K : Kk κ} {V : β → Value} {w : World} {b : Nat} {L : List (κ × β)} (h : IsMp K V w b L) (hK : K.Law) {k : κ} {x x' : β} (hf : fnd k L = some x) (hx : V x' = V x) : IsMp K V w b (put k x' L) := by
  have hk : K.ok k := h.ko _ (fnd_mem hf)
  have ho : Ko K (put k x' L) := fun p hp => by
    rcases mem_put.1 hp with rfl | hp
    · exact hk
    · exact h.ko p hp.1
  refine isMp_of (n := L.length) (nk_put h.nk) ho ?_
  have e : dat K V (put k x' L) = dat K V L := by
    unfold dat
    congr 1
    have e1 : (put k x' L).map (ent K V) = ((k, x) :: del k L).map (ent K V) := by simp [put, ent, hx]
    have hp : ((put k x' L).map (ent K V)).Perm (L.map (ent K V)) := by rw [e1]; exact ((perm_cons_del h.nk hf).map _).symm
    exact ChangeMaps.eq_of_perm_sorted ((WideShapes.sorted_perm _).trans (hp.trans (WideShapes.sorted_perm _).symm)) (sorted_sorted hK.keyed.one _ (ent_keys hK ho) (ent_apart hK ho (nk_put h.nk))) (sorted_sorted hK.keyed.one _ (ent_keys hK h.ko) (ent_apart hK h.ko h.nk))
  rw [e]
  exact h.own
theorem fnd_setL {k : Tx} {l : List Tx} : fnd k (setL l) = none ↔ k ∉ l := by
  rw [fnd_none]
  simp [setL]
  constructor
  · intro h hk; exact h k hk rfl
  · intro h a ha e; exact h (e ▸ ha)
theorem fnd_setL_some {k : Tx} {l : List Tx} (h : k ∈ l) : fnd k (setL l) = some () := by
  cases e : fnd k (setL l) with
  | none => exact absurd h (fnd_setL.1 e)
  | some u => rfl
theorem nk_setL {l : List Tx} : Nk (setL l) ↔ l.Nodup := by
  unfold Nk setL
  rw [List.pairwise_map]
  rfl
/-! ### how many there can be -/
theorem nodup_le {α : Type} [DecidableEq α] : ∀ {l U : List α}, l.Nodup → (∀ x ∈ l, x ∈ U) → l.length ≤ U.length
  | [], U, _, _ => Nat.zero_le _
  | x :: r, U, hn, hs => by
    obtain ⟨h1, h2⟩ := List.nodup_cons.1 hn
    have hx := hs x (by simp)
    have h3 := nodup_le (U := U.erase x) h2 (fun z hz => (List.mem_erase_of_ne (fun e : z = x => h1 (by rw [← e]; exact hz))).2 (hs z (by simp [hz])))
    have := List.length_erase_of_mem hx
    have : 0 < U.length := List.length_pos_of_mem hx
    simp only [List.length_cons]
    omega
theorem nk_nodup {κ β : Type} {L : List (κ × β)} (h : Nk L) : (L.map (·.1)).Nodup := by
  unfold List.Nodup
  rw [List.pairwise_map]
  exact h
theorem SL.tight {w : World} {p : Nat} {T : Nat → Option Ro} {s : St} {N : Nat} {y : Lay} (h : SL w p T s N y) {U : List Mk} (hU : ∀ m, s.V m ≠ none → m ∈ U) : SL w p T s U.length y := by
  have hV : y.V.length ≤ U.length := by
    have := nodup_le (U := U) (nk_nodup h.mv.nk) (fun m hm => hU m (by
      obtain ⟨q, hq, rfl⟩ := List.mem_map.1 hm
      rw [h.sv, fnd_of_mem h.mv.nk (k := q.1) (v := q.2) hq]
      simp))
    simpa using this
  have hL : y.L.length ≤ U.length := by
    have := nodup_le (U := U.map (·.1)) (nk_nodup h.ml.nk) (fun k hk => by
      obtain ⟨q, hq, rfl⟩ := List.mem_map.1 hk
      obtain ⟨i, hi⟩ := h.lv q hq
      exact List.mem_map.2 ⟨_, hU _ hi, rfl⟩)
    simpa using this
  have hW : y.W.length ≤ U.length := by
    have := nodup_le (U := U.map (·.2)) (nk_nodup h.mw.nk) (fun i hi => by
      obtain ⟨q, hq, rfl⟩ := List.mem_map.1 hi
      have hne := h.wn q hq
      obtain ⟨k, hk⟩ := List.exists_mem_of_ne_nil _ hne
      exact List.mem_map.2 ⟨_, hU _ ((h.sw q.1 k).2 ⟨q.2, fnd_of_mem h.mw.nk (k := q.1) (v := q.2) hq, hk⟩), rfl⟩)
    simpa using this
  have hS : ∀ q ∈ y.W, q.2.2.length ≤ U.length := fun q hq => by
    have := nodup_le (U := U.map (·.1)) (nk_setL.1 (h.set q hq).nk) (fun k hk => List.mem_map.2 ⟨_, hU _ ((h.sw q.1 k).2 ⟨q.2, fnd_of_mem h.mw.nk (k := q.1) (v := q.2) hq, hk⟩), rfl⟩)
    simpa using this
  have hF : ∀ q ∈ y.L, q.2.fr.length ≤ U.length := fun q hq => by
    obtain ⟨_, hn, hm⟩ := h.fr q hq
    have := nodup_le (U := U.map (·.2)) hn (fun i hi => by
      obtain ⟨v, hv, _⟩ := (hm i).1 hi
      exact List.mem_map.2 ⟨(q.1, i), hU _ (by rw [hv]; simp), rfl⟩)
    simpa using this
  exact { h with nv := hV, nl := hL, nw := hW, ns := hS, nf := hF }
theorem IsS.tight {w : World} {p : Nat} {T : Nat → Option Ro} {s : St} {N : Nat} (h : IsS w p T s N) {U : List Mk} (hU : ∀ m, s.V m ≠ none → m ∈ U) : IsS w p T s U.length := by
  obtain ⟨y, h⟩ := h
  exact ⟨y, h.tight hU⟩
end Go.Proofs.Ytagekdmkidbhpaa
