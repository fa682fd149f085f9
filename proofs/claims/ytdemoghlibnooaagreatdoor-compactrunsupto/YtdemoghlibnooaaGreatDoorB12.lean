import Derived.Test.YtdemoghlibnooaaGreatDoorA2
import Derived.Maps.RangeWalk
import Derived.Maps.OwnSet
import Derived.Maps.Ext
import Derived.DeepKeys4
import Derived.Test.YtdemoghlibnooaaGreatDoorA0
import Derived.Lib.QuietBelow
import Derived.BigQuiet
import Derived.Deep.RegionLaw
namespace Go.Proofs.YtdemoghlibnooaaGreatDoor
open Go.RowKit Go.Maps
set_option linter.unusedVariables false
set_option linter.unusedSimpArgs false
structure Kk (κ : Type) where
  t : TypeId
  val : κ → Value
  lit : κ → Lit
  ok : κ → Prop
structure Kk.Law {κ : Type} (K : Kk κ) : Prop where
  keyed : Keyed Tryz.prog K.t
  key : ∀ k, K.ok k → keyOf Tryz.prog K.t (K.val k) = some (K.lit k)
  inv : ∀ v l, keyOf Tryz.prog K.t v = some l → ∃ k, v = K.val k ∧ l = K.lit k ∧ K.ok k
  vinj : ∀ a b, K.val a = K.val b → a = b
def rdV (v : Value) : Option (DataW Value × List MemPlace) := some (.held v, [])
section
variable {κ β : Type} [DecidableEq κ]
def fnd (k : κ) : List (κ × β) → Option β
  | [] => none
  | p :: r => if p.1 = k then some p.2 else fnd k r
def del (k : κ) (L : List (κ × β)) : List (κ × β) := L.filter fun p => decide (p.1 ≠ k)
def put (k : κ) (v : β) (L : List (κ × β)) : List (κ × β) := (k, v) :: del k L
def Nk (L : List (κ × β)) : Prop := L.Pairwise fun p q => p.1 ≠ q.1
theorem fnd_none {k : κ} : ∀ {L : List (κ × β)}, fnd k L = none ↔ ∀ p ∈ L, p.1 ≠ k
  | [] => by simp [fnd]
  | p :: r => by
    simp only [fnd]
    split
    · rename_i h; simp [h]
    · rename_i h; simp [h, fnd_none (L := r)]
theorem fnd_mem {k : κ} {v : β} : ∀ {L : List (κ × β)}, fnd k L = some v → (k, v) ∈ L
  | [], h => by simp [fnd] at h
  | p :: r, h => by
    simp only [fnd] at h
    split at h
    · rename_i e; cases h; subst e; simp
    · exact List.mem_cons_of_mem _ (fnd_mem h)
theorem fnd_of_mem {k : κ} {v : β} : ∀ {L : List (κ × β)}, Nk L → (k, v) ∈ L → fnd k L = some v
  | [], _, h => by simp at h
  | p :: r, hn, h => by
    obtain ⟨h1, h2⟩ := List.pairwise_cons.1 hn
    simp only [fnd]
    rcases List.mem_cons.1 h with e | h
    · subst e; simp
    · rw [if_neg (h1 _ h)]; exact fnd_of_mem h2 h
theorem mem_del {k : κ} {L : List (κ × β)} {p : κ × β} : p ∈ del k L ↔ p ∈ L ∧ p.1 ≠ k := by simp [del]
theorem mem_put {k : κ} {v : β} {L : List (κ × β)} {p : κ × β} : p ∈ put k v L ↔ p = (k, v) ∨ (p ∈ L ∧ p.1 ≠ k) := by simp [put, mem_del]
theorem nk_del {k : κ} {L : List (κ × β)} (h : Nk L) : Nk (del k L) := List.Pairwise.filter _ h
theorem nk_put {k : κ} {v : β} {L : List (κ × β)} (h : Nk L) : Nk (put k v L) := List.pairwise_cons.2 ⟨fun q hq => fun e => (mem_del.1 hq).2 e.symm, nk_del h⟩
theorem fnd_del (k k' : κ) : ∀ L : List (κ × β), fnd k' (del k L) = if k' = k then none else fnd k' L
  | [] => by simp [del, fnd]
  | p :: r => by
    have ih := fnd_del k k' r
    by_cases hp : p.1 = k
    · have e1 : del k (p :: r) = del k r := by simp [del, hp]
      rw [e1, ih]
      simp only [fnd]
      split
      · rfl
      · rename_i h
        rw [if_neg (fun e => h (by rw [← e, hp]))]
    · have e1 : del k (p :: r) = p :: del k r := by simp [del, hp]
      rw [e1]
      simp only [fnd]
      rw [ih]
      split
      · rename_i h
        rw [if_neg (fun e => hp (by rw [h, e]))]
      · rfl
theorem fnd_put (k k' : κ) (v : β) (L : List (κ × β)) : fnd k' (put k v L) = if k' = k then some v else fnd k' L := by
  show (if k = k' then some v else fnd k' (del k L)) = _
  rw [fnd_del]
  by_cases h : k' = k
  · subst h; simp
  · rw [if_neg (fun e => h e.symm), if_neg h, if_neg h]
theorem del_none {k : κ} {L : List (κ × β)} (h : fnd k L = none) : del k L = L := List.filter_eq_self.2 fun p hp => by simpa using fnd_none.1 h p hp
theorem length_del_le (k : κ) (L : List (κ × β)) : (del k L).length ≤ L.length := List.length_filter_le _ _
theorem length_put_le (k : κ) (v : β) (L : List (κ × β)) : (put k v L).length ≤ L.length + 1 := by have := length_del_le k L; simp [put]; omega
theorem length_del_some {k : κ} : ∀ {L : List (κ × β)}, Nk L → ∀ {v}, fnd k L = some v → (del k L).length + 1 = L.length
  | [], _, v, h => by simp [fnd] at h
  | p :: r, hn, v, h => by
    obtain ⟨h1, h2⟩ := List.pairwise_cons.1 hn
    simp only [fnd] at h
    by_cases hp : p.1 = k
    · have e1 : del k (p :: r) = del k r := by simp [del, hp]
      rw [e1, del_none (fnd_none.2 fun q hq e => h1 q hq (by rw [hp, e])), List.length_cons]
    · rw [if_neg hp] at h
      have e1 : del k (p :: r) = p :: del k r := by simp [del, hp]
      have := length_del_some h2 h
      rw [e1, List.length_cons, List.length_cons]; omega
theorem length_put_some {k : κ} {v u : β} {L : List (κ × β)} (hn : Nk L) (h : fnd k L = some u) : (put k v L).length = L.length := by
  have := length_del_some hn h; simp [put]; omega
end
section
variable {κ β : Type} {K : Kk κ} {V : β → Value}
def ent (K : Kk κ) (V : β → Value) (p : κ × β) : Lit × DataW Value := (K.lit p.1, .held (V p.2))
def dat (K : Kk κ) (V : β → Value) (L : List (κ × β)) : DataW Value := .map ((L.map (ent K V)).foldr DataW.insert [])
def Ko (K : Kk κ) (L : List (κ × β)) : Prop := ∀ p ∈ L, K.ok p.1
theorem Kk.Law.inj (h : K.Law) {a b : κ} (ha : K.ok a) (hb : K.ok b) (e : K.lit a = K.lit b) : a = b :=
  h.vinj _ _ (h.keyed.inj (h.key a ha) (by rw [e]; exact h.key b hb))
theorem Kk.Law.isKey (h : K.Law) {k : κ} (hk : K.ok k) : WideAt.IsKeyLit (K.lit k) := h.keyed.key (h.key k hk)
theorem ent_keys (h : K.Law) {L : List (κ × β)} (ho : Ko K L) : Keys (KeysOf Tryz.prog K.t) (L.map (ent K V)) := by
  intro p hp
  obtain ⟨q, hq, rfl⟩ := List.mem_map.1 hp
  exact ⟨_, h.key _ (ho q hq)⟩
theorem ent_apart (h : K.Law) {L : List (κ × β)} (ho : Ko K L) (hn : Nk L) : (L.map (ent K V)).Pairwise (fun p q => p.1 ≠ q.1) := by
  rw [List.pairwise_map]
  refine List.Pairwise.imp_of_mem ?_ hn
  intro a b ha hb hne e
  exact hne (h.inj (ho a ha) (ho b hb) e)
theorem ent_del [DecidableEq κ] (h : K.Law) {L : List (κ × β)} (ho : Ko K L) {k : κ} (hk : K.ok k) : (L.map (ent K V)).filter (ChangeMaps.notKey (K.lit k)) = (del k L).map (ent K V) := by
  rw [List.filter_map]
  congr 1
  refine List.filter_congr fun p hp => ?_
  have e := notKey_iff (H := Value) (p := ent K V p) (h.isKey hk)
  by_cases hpk : p.1 = k
  · have : ¬ (ChangeMaps.notKey (K.lit k) (ent K V p) = true) := fun hh => e.1 hh (by simp [ent, hpk])
    simp [hpk, this]
  · have : ChangeMaps.notKey (K.lit k) (ent K V p) = true := e.2 (fun hh => hpk (h.inj (ho p hp) hk hh))
    simp [hpk, this]
theorem dat_put [DecidableEq κ] (h : K.Law) {L : List (κ × β)} (ho : Ko K L) (hn : Nk L) {k : κ} (hk : K.ok k) (v : β) : (dat K V L).put (K.lit k) (.held (V v)) = dat K V (put k v L) := by
  unfold dat
  rw [DataW.put_eq, sorted_put h.keyed.one ⟨_, h.key k hk⟩ (ent_keys h ho) (ent_apart h ho hn) (E' := (put k v L).map (ent K V)) (by rw [ent_del h ho hk]; exact List.Perm.refl _)]
theorem ent_rising (h : K.Law) {L : List (κ × β)} (ho : Ko K L) (hn : Nk L) : DataW.rising ((L.map (ent K V)).foldr DataW.insert []) = true :=
  ChangeMaps.rising_of_pairwise _ (sorted_sorted h.keyed.one _ (ent_keys h ho) (ent_apart h ho hn))
theorem dat_at_some [DecidableEq κ] (h : K.Law) {L : List (κ × β)} (ho : Ko K L) (hn : Nk L) {k : κ} (hk : K.ok k) {v : β} (hf : fnd k L = some v) (z : DataW Value) : (dat K V L).atKey (K.lit k) z = .held (V v) :=
  (WideShapes.atKey_sorted (L.map (ent K V)) (ent_rising h ho hn) (K.lit k) (h.isKey hk)).2 (ent K V (k, v)) (List.mem_map.2 ⟨_, fnd_mem hf, rfl⟩) rfl z
theorem dat_at_none [DecidableEq κ] (h : K.Law) {L : List (κ × β)} (ho : Ko K L) (hn : Nk L) {k : κ} (hk : K.ok k) (hf : fnd k L = none) (z : DataW Value) : (dat K V L).atKey (K.lit k) z = z := by
  refine (WideShapes.atKey_sorted (L.map (ent K V)) (ent_rising h ho hn) (K.lit k) (h.isKey hk)).1 (fun p hp e => ?_) z
  obtain ⟨q, hq, rfl⟩ := List.mem_map.1 hp
  exact fnd_none.1 hf q hq (h.inj (ho q hq) hk e)
theorem dat_has [DecidableEq κ] (h : K.Law) {L : List (κ × β)} (ho : Ko K L) (hn : Nk L) {k : κ} (hk : K.ok k) : Maps.has (dat K V L) (K.lit k) = (fnd k L).isSome := by
  cases hf : fnd k L with
  | none => exact has_false_of_atKey (dat_at_none h ho hn hk hf)
  | some v => exact has_true_of_atKey (dat_at_some h ho hn hk hf)
theorem dat_size (L : List (κ × β)) : Maps.size (dat K V L) = L.length := by simp [dat, Maps.size, length_sorted]
structure IsMp (K : Kk κ) (V : β → Value) (w : World) (b : Nat) (L : List (κ × β)) : Prop where
  nk : Nk L
  ko : Ko K L
  own : w.ownsMap Tryz.prog K.t rdV b L.length (dat K V L)
theorem isMp_of {w : World} {b n : Nat} {L : List (κ × β)} (hn : Nk L) (ho : Ko K L) (h : w.ownsMap Tryz.prog K.t rdV b n (dat K V L)) : IsMp K V w b L := by
  refine ⟨hn, ho, ?_⟩
  obtain ⟨es, clock, hh, F, hs, hD⟩ := h
  refine ⟨es, clock, hh, F, ?_, hD⟩
  have : Maps.size (dat K V L) = es.size := by rw [hD]; simp [Maps.size, length_sorted]
  rw [dat_size] at this
  omega
theorem IsMp.keeps {S : Nat → Prop} {w w' : World} {b : Nat} {L : List (κ × β)} (h : IsMp K V w b L) (hk : Keeps S w w') (hb : ¬ S b) : IsMp K V w' b L := by
  obtain ⟨es, clock, hh, r⟩ := h.own
  exact ⟨h.nk, h.ko, es, clock, hk.at hh hb, r⟩
theorem IsMp.keepsN {w w' : World} {b : Nat} {L : List (κ × β)} (h : IsMp K V w b L) (hk : Keeps no w w') : IsMp K V w' b L := h.keeps hk id
theorem IsMp.lt {w : World} {b : Nat} {L : List (κ × β)} (h : IsMp K V w b L) : b < w.heap.size := h.own.lt
theorem IsMp.obj {w : World} {b : Nat} {L : List (κ × β)} (h : IsMp K V w b L) : ∃ es clock, w.heap[b]? = some (.map es clock) := by
  obtain ⟨es, clock, hh, r⟩ := h.own
  exact ⟨es, clock, hh⟩
theorem isMp_made (w : World) : IsMp K V (w.alloc (.map #[] 0)) w.heap.size ([] : List (κ × β)) := ⟨List.Pairwise.nil, fun p hp => by simp at hp, World.ownsMap_made w Tryz.prog K.t rdV⟩
theorem held_inj {a b : Value} (h : (DataW.held a : DataW Value) = .held b) : a = b := by injection h
theorem rdV_inv {v : Value} {d : DataW Value} {ps : List MemPlace} (h : rdV v = some (d, ps)) : d = .held v := by
  unfold rdV at h; injection h with h; injection h with h _; exact h.symm
theorem IsMp.look_some [DecidableEq κ] {w : World} {b : Nat} {L : List (κ × β)} (h : IsMp K V w b L) (hK : K.Law) {t e : TypeId} (ht : Tryz.prog.underlying t = some (.map K.t e)) {z : Value} (hz : (zeroValue e).run Tryz.prog w = .ok z w) {k : κ} (hk : K.ok k) {v : β} (hf : fnd k L = some v) :
    (Instr.lookup t (.map (some b)) (K.val k) false).run Tryz.prog w = .ok (V v) w := by
  obtain ⟨u, ps, hrun, hv⟩ := h.own.lookup hK.keyed ht hz (zd := .held z) (zp := []) rfl (hK.key k hk)
  rw [dat_at_some hK h.ko h.nk hk hf] at hv
  have := held_inj (rdV_inv hv)
  rw [hrun, this]
theorem IsMp.look_none [DecidableEq κ] {w : World} {b : Nat} {L : List (κ × β)} (h : IsMp K V w b L) (hK : K.Law) {t e : TypeId} (ht : Tryz.prog.underlying t = some (.map K.t e)) {z : Value} (hz : (zeroValue e).run Tryz.prog w = .ok z w) {k : κ} (hk : K.ok k) (hf : fnd k L = none) :
    (Instr.lookup t (.map (some b)) (K.val k) false).run Tryz.prog w = .ok z w := by
  obtain ⟨u, ps, hrun, hv⟩ := h.own.lookup hK.keyed ht hz (zd := .held z) (zp := []) rfl (hK.key k hk)
  rw [dat_at_none hK h.ko h.nk hk hf] at hv
  have := held_inj (rdV_inv hv)
  rw [hrun, this]
theorem IsMp.look2_some [DecidableEq κ] {w : World} {b : Nat} {L : List (κ × β)} (h : IsMp K V w b L) (hK : K.Law) {t e : TypeId} (ht : Tryz.prog.underlying t = some (.map K.t e)) {z : Value} (hz : (zeroValue e).run Tryz.prog w = .ok z w) {k : κ} (hk : K.ok k) {v : β} (hf : fnd k L = some v) :
    (Instr.lookup t (.map (some b)) (K.val k) true).run Tryz.prog w = .ok (.tuple #[V v, .bool true]) w := by
  obtain ⟨u, ps, hrun, hv⟩ := h.own.look_ok hK.keyed ht hz (zd := .held z) (zp := []) rfl (hK.key k hk)
  rw [dat_at_some hK h.ko h.nk hk hf] at hv
  have := held_inj (rdV_inv hv)
  rw [hrun, this, dat_has hK h.ko h.nk hk, hf]
  rfl
theorem IsMp.look2_none [DecidableEq κ] {w : World} {b : Nat} {L : List (κ × β)} (h : IsMp K V w b L) (hK : K.Law) {t e : TypeId} (ht : Tryz.prog.underlying t = some (.map K.t e)) {z : Value} (hz : (zeroValue e).run Tryz.prog w = .ok z w) {k : κ} (hk : K.ok k) (hf : fnd k L = none) :
    (Instr.lookup t (.map (some b)) (K.val k) true).run Tryz.prog w = .ok (.tuple #[z, .bool false]) w := by
  obtain ⟨u, ps, hrun, hv⟩ := h.own.look_ok hK.keyed ht hz (zd := .held z) (zp := []) rfl (hK.key k hk)
  rw [dat_at_none hK h.ko h.nk hk hf] at hv
  have := held_inj (rdV_inv hv)
  rw [hrun, this, dat_has hK h.ko h.nk hk, hf]
  rfl
theorem IsMp.len {w : World} {b : Nat} {L : List (κ × β)} (h : IsMp K V w b L) {t e : TypeId} (ht : Tryz.prog.underlying t = some (.map K.t e)) (ty : TypeId) : (Builtin.len_ #[t] ty #[.map (some b)]).run Tryz.prog w = .ok (.int .i64 ((L.length : Nat) : Int)) w := by
  rw [h.own.len ht ty, dat_size]
theorem keeps_of_grown0 {w w' : World} (h : w.grownBy w' none) : Keeps no w w' := (Keeps.refl _ w).grown h (fun k hk => by cases hk)
end
section
variable {κ β : Type} {w : World} {ops : Array Oper} {rest : List Oper} {o : Oper} {a : Act} {Q : Exit → Act → World → Prop}
structure Rng (K : Kk κ) (V : β → Value) (w : World) (b r : Nat) (L : List (κ × β)) (lf : κ → Bool) : Prop where
  nk : Nk L
  ko : Ko K L
  rg : ∃ left cnt, w.ranges Tryz.prog K.t rdV b r L.length (dat K V L) left cnt ∧ ∀ k, K.ok k → left (K.lit k) = lf k
theorem Rng.keeps {K : Kk κ} {V : β → Value} {b r : Nat} {L : List (κ × β)} {lf : κ → Bool} {S : Nat → Prop} {w' : World} (h : Rng K V w b r L lf) (hk : Keeps S w w') (hb : ¬ S b) (hr : ¬ S r) : Rng K V w' b r L lf := by
  refine ⟨h.nk, h.ko, ?_⟩
  obtain ⟨left, cnt, ⟨es, clock, since, seen, c0, h1, F, hs, hD, h2, r⟩, hl⟩ := h.rg
  exact ⟨left, cnt, ⟨es, clock, since, seen, c0, hk.at h1 hb, F, hs, hD, hk.at h2 hr, r⟩, hl⟩
theorem Rng.left_keeps {K : Kk κ} {V : β → Value} {b r : Nat} {L : List (κ × β)} {lf : κ → Bool} {S : Nat → Prop} {w' : World} (h : Rng K V w b r L lf) (hk : Keeps S w w') (hb : ¬ S b) (hr : ¬ S r) : w'.rangeLeft b r = w.rangeLeft b r := by
  obtain ⟨left, cnt, ⟨es, clock, since, seen, c0, h1, F, hs, hD, h2, r⟩, hl⟩ := h.rg
  simp only [World.rangeLeft, hk.at h1 hb, h1, hk.at h2 hr, h2]
theorem wpList_mrange [DecidableEq κ] (hg : o.guard = none) (m : Operand) (t : TypeId) (hop : o.op = Op.range t m) (K : Kk κ) (hK : K.Law) (V : β → Value) (e : TypeId) (ht : Tryz.prog.underlying t = some (.map K.t e)) (b : Nat) (L : List (κ × β)) (hm : a.eval m = .map (some b)) (h : IsMp K V w b L)
    (hQ : ∀ w', Rng K V w' b w.heap.size L (fun k => (fnd k L).isSome) → Keeps no w w' → w'.heap.size = w.heap.size + 1 → wpList Tryz.prog ops Q rest (a.put o.dst (.pointer (some ⟨w.heap.size, 0, none⟩))) w') : wpList Tryz.prog ops Q (o :: rest) a w := by
  refine wpList_range_own w hg m t hop K.t e hK.keyed ht rdV b L.length _ hm h.own ?_
  intro w' h1 h2 h3
  exact hQ w' ⟨h.nk, h.ko, _, _, h1, fun k hk => dat_has hK h.ko h.nk hk⟩ (keeps_of_grown0 h2) h3
theorem wpList_mnext [DecidableEq κ] (hg : o.guard = none) (it : Operand) (hop : o.op = Op.next it false) (K : Kk κ) (hK : K.Law) (V : β → Value) (b r : Nat) (L : List (κ × β)) (lf : κ → Bool) (hit : a.eval it = .pointer (some ⟨r, 0, none⟩)) (h : Rng K V w b r L lf)
    (hDone : (∀ k, K.ok k → lf k = false) → wpList Tryz.prog ops Q rest (a.put o.dst (.tuple #[.bool false])) w)
    (hMore : ∀ (k : κ) (y : β) (w' : World), K.ok k → lf k = true → fnd k L = some y → Rng K V w' b r L (fun z => lf z && decide (z ≠ k)) → w'.rangeLeft b r < w.rangeLeft b r → Keeps (fun i => i = r) w w' → w'.heap.size = w.heap.size →
      (Instr.entry (.pointer (some ⟨r, 0, none⟩))).run Tryz.prog w' = .ok (.tuple #[K.val k, V y]) w' → wpList Tryz.prog ops Q rest (a.put o.dst (.tuple #[.bool true, K.val k, V y])) w') : wpList Tryz.prog ops Q (o :: rest) a w := by
  obtain ⟨left, cnt, hr, hl⟩ := h.rg
  refine wpList_next_ranges w hg it hop K.t hK.keyed rdV K.val id (fun v l hv => ?_) (fun v y _ => ⟨v, rfl⟩) b r L.length _ left cnt hit hr ?_ ?_
  · obtain ⟨k, e, _, _⟩ := hK.inv v l hv
    exact ⟨k, e⟩
  · intro h0 hl0
    exact hDone fun k hk => by rw [← hl k hk]; exact hl0 _
  · intro x c kl y w' cnt' hkey hlk hv hat hrg hlt hgr hsz hen
    obtain ⟨k, e1, rfl, hk⟩ := hK.inv _ _ hkey
    obtain rfl := hK.vinj _ _ e1
    cases hf : fnd x L with
    | none =>
      have h1 := hat .nil
      have h2 := hat (.lit (.bool true))
      rw [dat_at_none hK h.ko h.nk hk hf] at h1 h2
      rw [← h1] at h2
      cases h2
    | some u =>
      have h1 := hat .nil
      rw [dat_at_some hK h.ko h.nk hk hf] at h1
      obtain ⟨y1, y2⟩ := y
      have h2 := rdV_inv hv
      simp only at h1
      rw [h2] at h1
      have h3 : V u = c := held_inj h1
      subst h3
      refine hMore x u w' hk (by rw [← hl x hk]; exact hlk) hf ⟨h.nk, h.ko, _, _, hrg, fun z hz => ?_⟩ (by rw [hrg.left_eq, hr.left_eq]; exact hlt) (keeps_of_grown hgr) hsz hen
      have e1 := hl z hz
      suffices hs : (!(K.lit z).sameKey (K.lit x)) = decide (z ≠ x) by
        show (left (K.lit z) && !(K.lit z).sameKey (K.lit x)) = (lf z && decide (z ≠ x))
        rw [e1, hs]
      by_cases e : z = x
      · subst e
        rw [WideAt.sameKey_self (hK.isKey hz)]
        simp
      · have : (K.lit z).sameKey (K.lit x) = false := by
          cases hs : (K.lit z).sameKey (K.lit x)
          · rfl
          · exact absurd (hK.inj hz hk (WideAt.sameKey_eq hs)) e
        simp [this, e]
end
end Go.Proofs.YtdemoghlibnooaaGreatDoor
namespace Go.Proofs.YtdemoghlibnooaaGreatDoor
set_option linter.unusedVariables false
set_option linter.unusedSimpArgs false
namespace Hp
def swp (l : List Nat) (i j : Nat) : List Nat := (l.set i (l.getD j 0)).set j (l.getD i 0)
theorem swp_length (l : List Nat) (i j : Nat) : (swp l i j).length = l.length := by simp [swp]
theorem swp_at (l : List Nat) {i j : Nat} (hi : i < l.length) (hj : j < l.length) (k : Nat) : (swp l i j).getD k 0 = if k = j then l.getD i 0 else if k = i then l.getD j 0 else l.getD k 0 := by
  unfold swp
  by_cases h1 : k = j
  · subst h1; simp [hj, List.getD_eq_getElem?_getD]
  · by_cases h2 : k = i
    · subst h2
      rw [if_neg h1, if_pos rfl]
      have : j ≠ k := fun e => h1 e.symm
      simp [List.getD_eq_getElem?_getD, List.getElem?_set, this, hi]
    · rw [if_neg h1, if_neg h2]
      have e1 : j ≠ k := fun e => h1 e.symm
      have e2 : i ≠ k := fun e => h2 e.symm
      simp [List.getD_eq_getElem?_getD, List.getElem?_set, e1, e2]
theorem swp_perm (l : List Nat) {i j : Nat} (hi : i < l.length) (hj : j < l.length) : (swp l i j).Perm l := by
  have h := List.set_set_perm hi hj
  have e1 : l.getD j 0 = l[j] := by simp [List.getD_eq_getElem?_getD, hj]
  have e2 : l.getD i 0 = l[i] := by simp [List.getD_eq_getElem?_getD, hi]
  unfold swp
  rw [e1, e2]
  exact h
def HeapN (l : List Nat) (n : Nat) : Prop := ∀ k, 0 < k → k < n → l.getD ((k - 1) / 2) 0 ≤ l.getD k 0
def Heap (l : List Nat) : Prop := HeapN l l.length
structure HUp (l : List Nat) (j : Nat) : Prop where
  a : ∀ k, 0 < k → k < l.length → k ≠ j → l.getD ((k - 1) / 2) 0 ≤ l.getD k 0
  b : ∀ k, 0 < k → k < l.length → (k - 1) / 2 = j → 0 < j → l.getD ((j - 1) / 2) 0 ≤ l.getD k 0
theorem getD_snoc (l : List Nat) (x k : Nat) (h : k < l.length) : (l ++ [x]).getD k 0 = l.getD k 0 := by
  simp [List.getD_eq_getElem?_getD, List.getElem?_append_left h]
theorem hup_push {l : List Nat} (h : Heap l) (x : Nat) : HUp (l ++ [x]) l.length := by
  constructor
  · intro k h1 h2 h3
    rw [List.length_append] at h2
    simp at h2
    have hk : k < l.length := by omega
    rw [getD_snoc _ _ _ hk, getD_snoc _ _ _ (by omega)]
    exact h k h1 hk
  · intro k h1 h2 h3 h4
    rw [List.length_append] at h2
    simp at h2
    omega
theorem hup_done {l : List Nat} {j : Nat} (h : HUp l j) (hj : j = 0 ∨ l.getD ((j - 1) / 2) 0 ≤ l.getD j 0) : Heap l := by
  intro k h1 h2
  by_cases e : k = j
  · subst e
    rcases hj with e | e
    · omega
    · exact e
  · exact h.a k h1 h2 e
theorem hup_step {l : List Nat} {j : Nat} (h : HUp l j) (hj : 0 < j) (hl : j < l.length) (hlt : l.getD j 0 < l.getD ((j - 1) / 2) 0) : HUp (swp l ((j - 1) / 2) j) ((j - 1) / 2) := by
  have hi : (j - 1) / 2 < l.length := by omega
  have hij : (j - 1) / 2 < j := by omega
  constructor
  · intro k h1 h2 h3
    rw [swp_length] at h2
    rw [swp_at l hi hl, swp_at l hi hl]
    by_cases e1 : k = j
    · subst e1
      rw [if_neg (by omega), if_pos rfl, if_pos rfl]
      omega
    · rw [if_neg e1, if_neg h3]
      by_cases e2 : (k - 1) / 2 = j
      · rw [if_pos e2]
        exact h.b k h1 h2 e2 hj
      · rw [if_neg e2]
        by_cases e3 : (k - 1) / 2 = (j - 1) / 2
        · rw [if_pos e3]
          have := h.a k h1 h2 e1
          rw [e3] at this
          omega
        · rw [if_neg e3]
          exact h.a k h1 h2 e1
  · intro k h1 h2 h3 h4
    rw [swp_length] at h2
    rw [swp_at l hi hl, swp_at l hi hl]
    have hpp := h.a ((j - 1) / 2) h4 hi (by omega)
    rw [if_neg (by omega), if_neg (by omega)]
    by_cases e1 : k = j
    · subst e1
      rw [if_pos rfl]
      exact hpp
    · rw [if_neg e1]
      have hk := h.a k h1 h2 e1
      rw [h3] at hk
      rw [if_neg (by omega)]
      omega
structure HDn (l : List Nat) (i n : Nat) : Prop where
  a : ∀ k, 0 < k → k < n → (k - 1) / 2 ≠ i → l.getD ((k - 1) / 2) 0 ≤ l.getD k 0
  b : ∀ k, 0 < k → k < n → (k - 1) / 2 = i → 0 < i → l.getD ((i - 1) / 2) 0 ≤ l.getD k 0
theorem hdn_start {l : List Nat} {n : Nat} (h : Heap l) (hn : n + 1 = l.length) : HDn (swp l 0 n) 0 n := by
  constructor
  · intro k h1 h2 h3
    rw [swp_at l (by omega) (by omega), swp_at l (by omega) (by omega)]
    rw [if_neg (by omega), if_neg h3, if_neg (by omega), if_neg (by omega)]
    exact h k h1 (by omega)
  · intro k h1 h2 h3 h4
    omega
theorem hdn_leaf {l : List Nat} {i n : Nat} (h : HDn l i n) (hl : n ≤ 2 * i + 1) : HeapN l n := by
  intro k h1 h2
  exact h.a k h1 h2 (by omega)
def Less2 (l : List Nat) (i j n : Nat) : Prop := j < n ∧ (j = 2 * i + 1 ∨ j = 2 * i + 2) ∧ ∀ k, k < n → (k = 2 * i + 1 ∨ k = 2 * i + 2) → l.getD j 0 ≤ l.getD k 0
theorem hdn_done {l : List Nat} {i j n : Nat} (h : HDn l i n) (hj : Less2 l i j n) (hge : l.getD i 0 ≤ l.getD j 0) : HeapN l n := by
  intro k h1 h2
  by_cases e : (k - 1) / 2 = i
  · rw [e]
    exact Nat.le_trans hge (hj.2.2 k h2 (by omega))
  · exact h.a k h1 h2 e
theorem hdn_step {l : List Nat} {i j n : Nat} (h : HDn l i n) (hn : n ≤ l.length) (hj : Less2 l i j n) (hlt : l.getD j 0 < l.getD i 0) : HDn (swp l i j) j n := by
  obtain ⟨h1, h2, h3⟩ := hj
  have hjl : j < l.length := by omega
  have hil : i < l.length := by omega
  constructor
  · intro k k1 k2 k3
    rw [swp_at l hil hjl, swp_at l hil hjl, if_neg k3]
    by_cases e1 : (k - 1) / 2 = i
    · rw [if_pos e1]
      by_cases e2 : k = j
      · rw [if_pos e2]; omega
      · rw [if_neg e2, if_neg (by omega)]
        exact h3 k k2 (by omega)
    · rw [if_neg e1]
      have hk := h.a k k1 k2 e1
      rw [if_neg (by omega)]
      by_cases e3 : k = i
      · subst e3
        rw [if_pos rfl]
        exact h.b j (by omega) h1 (by omega) k1
      · rw [if_neg e3]; exact hk
  · intro k k1 k2 k3 k4
    have e : (j - 1) / 2 = i := by omega
    rw [e, swp_at l hil hjl, swp_at l hil hjl, if_neg (by omega), if_pos rfl, if_neg (by omega), if_neg (by omega)]
    have := h.a k k1 k2 (by omega)
    rw [k3] at this
    exact this
theorem heap_min {l : List Nat} (h : Heap l) : ∀ k, k < l.length → l.getD 0 0 ≤ l.getD k 0 := by
  intro k
  induction k using Nat.strongRecOn with
  | _ k ih =>
    intro hk
    by_cases e : k = 0
    · subst e; exact Nat.le_refl _
    · exact Nat.le_trans (ih ((k - 1) / 2) (by omega) (by omega)) (h k (by omega) hk)
theorem heap_min_mem {l : List Nat} (h : Heap l) {x : Nat} (hx : x ∈ l) : l.getD 0 0 ≤ x := by
  obtain ⟨k, hk, rfl⟩ := List.getElem_of_mem hx
  have := heap_min h k hk
  rwa [show l.getD k 0 = l[k] by simp [List.getD_eq_getElem?_getD, hk]] at this
theorem heap_take {l : List Nat} {n : Nat} (h : HeapN l n) (hn : n ≤ l.length) : Heap (l.take n) := by
  intro k h1 h2
  have h2' : k < n := by simp at h2; omega
  have e : ∀ j, j < n → (l.take n).getD j 0 = l.getD j 0 := fun j hj => by simp [List.getD_eq_getElem?_getD, List.getElem?_take, hj]
  rw [e _ h2', e _ (by omega)]
  exact h k h1 h2'
theorem heap_nil : Heap [] := fun k _ h => by simp at h
end Hp
end Go.Proofs.YtdemoghlibnooaaGreatDoor
namespace Go.Proofs.YtdemoghlibnooaaGreatDoor
open Go.RowKit Go.Maps
set_option linter.unusedVariables false
set_option linter.unusedSimpArgs false
def KT : Kk Tx := ⟨9, .string, fun s => .string s.data.toList, fun s => s.size ≤ maxLen⟩
def KI : Kk Nat := ⟨43, fun n => .int .u64 ((n : Nat) : Int), fun n => .int .u64 ((n : Nat) : Int), fun n => n < 18446744073709551616⟩
abbrev Mk := Tx × Nat
def KM : Kk Mk := ⟨145, fun m => .agg #[.string m.1, .int .u64 ((m.2 : Nat) : Int)], fun m => .string (keyBytes [.string m.1.data.toList, .int .u64 ((m.2 : Nat) : Int)]), fun m => m.1.size ≤ maxLen ∧ m.2 < 18446744073709551616⟩
theorem lawT : KT.Law where
  keyed := string_keyed Tryz.underlying9
  key s h := by
    have h' : s.size ≤ maxLen := h
    show keyOf Tryz.prog 9 (.string s) = some (.string s.data.toList)
    simp [keyOf, Tryz.underlying9, mapKey, h']
  inv v l h := by
    change keyOf Tryz.prog 9 v = some l at h
    cases v <;> simp [keyOf, Tryz.underlying9, mapKey] at h
    exact ⟨_, rfl, h.2.symm, h.1⟩
  vinj a b h := by
    change Value.string a = Value.string b at h
    injection h
theorem wfI (n : Nat) : (Lit.int .u64 ((n : Nat) : Int)).wf = true ↔ n < 18446744073709551616 := by
  simp [Lit.wf, IntKind.min, IntKind.max, IntKind.signed, IntKind.bits]
  omega
theorem lawI : KI.Law where
  keyed := int_keyed Tryz.underlying43
  key n h := keyOf_int_mk Tryz.underlying43 ((wfI n).2 h)
  inv v l h := by
    obtain ⟨x, rfl, rfl, hw⟩ := keyOf_int_inv Tryz.underlying43 h
    have h0 : 0 ≤ x := by
      simp [Lit.wf, IntKind.min, IntKind.max, IntKind.signed, IntKind.bits] at hw
      omega
    obtain ⟨n, rfl⟩ := Int.eq_ofNat_of_zero_le h0
    exact ⟨n, rfl, rfl, (wfI n).1 hw⟩
  vinj a b h := by
    change Value.int .u64 (a : Int) = Value.int .u64 (b : Int) at h
    injection h with _ h
    omega
theorem laidOut : laidOutB Tryz.prog = true := by kernel_rfl
theorem keyTypeM : Tryz.prog.keyType 145 = true := by kernel_rfl
theorem cellsM : Tryz.prog.cellsOf 145 = 2 := by kernel_rfl
theorem cells9 : Tryz.prog.cellsOf 9 = 1 := by kernel_rfl
theorem cellsI : Tryz.prog.cellsOf 43 = 1 := by kernel_rfl
theorem rowM : (145 : TypeId) < Tryz.prog.types.size := of_decide_eq_true (by kernel_rfl)
theorem typesD : ∃ d, Tryz.prog.types.size = d + 1 := by
  have h : 1 ≤ Tryz.prog.types.size := of_decide_eq_true (by kernel_rfl)
  exact ⟨Tryz.prog.types.size - 1, by omega⟩
theorem wideM : (match Tryz.prog.underlying 145 with | some (.array _ _) | some (.struct _) => true | _ => false) = true := by kernel_rfl
theorem kta : Tryz.prog.keyTypeAt 2 145 = true := by kernel_rfl
set_option maxRecDepth 20000 in
theorem keyedM : Keyed Tryz.prog 145 := Keyed.of_law (deep_law_laid (P := Tryz.prog) laidOut (m := 2) (k := 145) (Nat.le_of_ble_eq_true rfl) rowM kta wideM)
theorem lits9 (d : Nat) (v : Value) : Tryz.prog.keyLits (d + 1) 9 [v] = match v with | .string s => if s.size ≤ maxLen then some [.string s.data.toList] else none | _ => none := by
  unfold Program.keyLits
  rw [Tryz.underlying9]
  cases v <;> rfl
theorem litsI (d : Nat) (v : Value) : Tryz.prog.keyLits (d + 1) 43 [v] = match v with | .int q' n => if q' = IntKind.u64 ∧ (Lit.int .u64 n).wf = true then some [.int .u64 n] else none | _ => none := by
  unfold Program.keyLits
  rw [Tryz.underlying43]
  cases v <;> rfl
theorem litsM (D : Nat) (a b : Value) : Tryz.prog.keyLits (D + 1) 145 [a, b] = (Tryz.prog.keyLits D 9 [a]).bind fun x => (Tryz.prog.keyLits D 43 [b]).map fun y => x ++ y := by
  generalize hA : Tryz.prog.keyLits D 9 [a] = A
  generalize hB : Tryz.prog.keyLits D 43 [b] = B
  unfold Program.keyLits
  rw [Tryz.underlying145]
  simp only [cellsM]
  rw [if_pos (by constructor; rfl; simp)]
  simp only [List.mapM_cons, List.mapM_nil, List.drop_zero, List.drop_succ_cons, cells9, cellsI, List.take_succ_cons, List.take_zero, hA, hB]
  cases A <;> cases B <;> simp
theorem keyM_mk (a b : Value) : keyOf Tryz.prog 145 (.agg #[a, b]) = (Tryz.prog.keyLits (Tryz.prog.types.size) 9 [a]).bind fun x => (Tryz.prog.keyLits (Tryz.prog.types.size) 43 [b]).map fun y => .string (keyBytes (x ++ y)) := by
  have hf : (Value.agg #[a, b]).formed Tryz.prog 145 = true := by simp [Value.formed, Tryz.underlying145, cellsM]
  unfold keyOf
  rw [Tryz.underlying145]
  simp only [keyTypeM, hf, Bool.true_and, if_true, Value.cells]
  generalize Tryz.prog.types.size = D
  rw [litsM]
  cases Tryz.prog.keyLits D 9 [a] with
  | none => rfl
  | some x => cases Tryz.prog.keyLits D 43 [b] <;> rfl
set_option maxRecDepth 20000 in
theorem keyM_shape (v : Value) (l : Lit) (h : keyOf Tryz.prog 145 v = some l) : ∃ a b, v = .agg #[a, b] := by
  simp only [keyOf, Tryz.underlying145, keyTypeM, Bool.true_and] at h
  have hf : v.formed Tryz.prog 145 = true := by
    cases e : v.formed Tryz.prog 145 with
    | true => rfl
    | false => rw [e] at h; simp at h
  cases v with
  | agg cs =>
    obtain ⟨l⟩ := cs
    simp [Value.formed, Tryz.underlying145, cellsM] at hf
    clear h
    cases l with
    | nil => simp at hf
    | cons a r => cases r with
      | nil => simp at hf
      | cons b q => cases q with
        | nil => exact ⟨a, b, rfl⟩
        | cons _ _ => simp at hf
  | _ => simp [Value.formed, Tryz.underlying145] at hf
theorem lawM : KM.Law where
  keyed := keyedM
  key m h := by
    obtain ⟨d, hd⟩ := typesD
    have h1 : m.1.size ≤ maxLen := h.1
    have h2 : m.2 < 18446744073709551616 := h.2
    show keyOf Tryz.prog 145 (.agg #[.string m.1, .int .u64 ((m.2 : Nat) : Int)]) = _
    rw [keyM_mk]
    simp only [hd, lits9, litsI, h1, (wfI m.2).2 h2]
    rfl
  inv v l h := by
    obtain ⟨d, hd⟩ := typesD
    change keyOf Tryz.prog 145 v = some l at h
    obtain ⟨a, b, rfl⟩ := keyM_shape v l h
    rw [keyM_mk, hd, lits9, litsI] at h
    cases a <;> simp at h
    rename_i s
    cases b <;> simp at h
    rename_i q n
    by_cases hs : s.size ≤ maxLen
    rotate_left
    · simp [hs] at h
    simp [hs] at h
    obtain ⟨⟨rfl, hw⟩, rfl⟩ := h
    have h0 : 0 ≤ n := by
      simp [Lit.wf, IntKind.min, IntKind.max, IntKind.signed, IntKind.bits] at hw
      omega
    obtain ⟨k, rfl⟩ := Int.eq_ofNat_of_zero_le h0
    exact ⟨(s, k), rfl, rfl, hs, (wfI k).1 hw⟩
  vinj a b h := by
    obtain ⟨a1, a2⟩ := a
    obtain ⟨b1, b2⟩ := b
    change Value.agg #[.string a1, .int .u64 (a2 : Int)] = Value.agg #[.string b1, .int .u64 (b2 : Int)] at h
    simp at h
    have h2 : a2 = b2 := by omega
    rw [h.1, h2]
end Go.Proofs.YtdemoghlibnooaaGreatDoor
namespace Go.Proofs.YtdemoghlibnooaaGreatDoor
open Go.RowKit Go.Maps
set_option linter.unusedVariables false
set_option linter.unusedSimpArgs false
structure Vr where
  val : Tx
  keys : List Tx
  stamp : Int
structure St where
  V : Mk → Option Vr
  last : Tx → Nat
def St.new : St := ⟨fun _ => none, fun _ => 0⟩
def St.add (s : St) (m : Mk) (v : Vr) : St := { s with V := fun z => if z = m then some v else s.V z }
structure MV where
  val : Tx
  o : Option Addr
  c : Nat
  keys : List Tx
  stamp : Int
def MV.vr (v : MV) : Vr := ⟨v.val, v.keys, v.stamp⟩
structure Ln where
  p : Nat
  last : Nat
  o : Option Addr
  c : Nat
  fr : List Nat
def vvV (v : MV) : Value := .agg #[.string v.val, .slice v.o v.keys.length v.c, .int .i64 v.stamp]
def vvL (x : Ln) : Value := .pointer (some ⟨x.p, 0, none⟩)
def vvW (x : Nat × List Tx) : Value := .map (some x.1)
def vvU (_ : Unit) : Value := .agg #[]
def IE : El Nat := ⟨43, 175, 1, 8, fun n => [.int .u64 ((n : Nat) : Int)]⟩
theorem infoI : (Tryz.prog.info? 43).map (fun i => (i.zero, i.size, i.bytes)) = some (some (.int .u64 0), 1, 8) := by kernel_rfl
theorem okI : IE.Ok := by
  obtain ⟨i0, hi, hz0, hz1, hz2⟩ := info_parts infoI
  exact ⟨fun _ => rfl, fun x u hu => by simp [IE] at hu; subst hu; rfl, by decide, Tryz.underlying175, i0, _, hi, hz0, hz1, hz2, rfl⟩
theorem Sl.oneG {α : Type} {E : El α} {w : World} {a : Option Addr} {c : Nat} {xs : List α} (h : Sl E w a c xs) (hx : E.Ok) (hk : E.k = 1) (d : α) {j : Nat} (hj : j < xs.length) (u : Value) (hu : E.enc (xs.getD j d) = [u]) : ∃ b off, a = some ⟨b, off, none⟩ ∧ w.cell? ⟨b, off + j, none⟩ = some u := by
  rcases h.row with e | ⟨b, off, rfl, hc⟩
  · subst e; simp at hj
  · refine ⟨b, off, rfl, hc j _ ?_⟩
    have := cells_at hx d xs j 0 hj (by omega)
    rw [hk, hu] at this
    simpa using this
theorem Sl.atI {w : World} {a : Option Addr} {c : Nat} {xs : List Nat} (h : Sl IE w a c xs) {j : Nat} (hj : j < xs.length) : ∃ b off, a = some ⟨b, off, none⟩ ∧ w.cell? ⟨b, off + j, none⟩ = some (.int .u64 ((xs.getD j 0 : Nat) : Int)) := h.oneG okI rfl 0 hj _ rfl
def lcells (x : Ln) : Array Value := #[.int .u64 ((x.last : Nat) : Int), .slice x.o x.fr.length x.c]
structure LineAt (w : World) (x : Ln) : Prop where
  blk : w.heap[x.p]? = some (.cells (lcells x) 177 (0, 0))
  own : Own IE w x.o x.c x.fr
theorem LineAt.keeps {S : Nat → Prop} {w w' : World} {x : Ln} (h : LineAt w x) (hk : Keeps S w w') (hp : ¬ S x.p) (ho : ∀ k, inO x.o k → ¬ S k) : LineAt w' x := ⟨hk.at h.blk hp, h.own.keeps hk ho⟩
inductive Ro where
  | pt | vm | lm | wm | ky
  | ln (k : Tx) | fr (k : Tx)
  | st (i : Nat)
structure Lay where
  vm : Nat
  lm : Nat
  wm : Nat
  V : List (Mk × MV)
  L : List (Tx × Ln)
  W : List (Nat × (Nat × List Tx))
def setL (l : List Tx) : List (Tx × Unit) := l.map fun k => (k, ())
def scells (y : Lay) : Array Value := #[.map (some y.vm), .map (some y.lm), .map (some y.wm)]
def lastOf (L : List (Tx × Ln)) (k : Tx) : Nat := match fnd k L with | some x => x.last | none => 0
structure SL (w : World) (p : Nat) (T : Nat → Option Ro) (s : St) (N : Nat) (y : Lay) : Prop where
  blk : w.heap[p]? = some (.cells (scells y) 94 (0, 0))
  mv : IsMp KM vvV w y.vm y.V
  ml : IsMp KT vvL w y.lm y.L
  mw : IsMp KI vvW w y.wm y.W
  line : ∀ q ∈ y.L, LineAt w q.2
  set : ∀ q ∈ y.W, IsMp KT vvU w q.2.1 (setL q.2.2)
  key : ∀ q ∈ y.V, Sl TE w q.2.o q.2.c q.2.keys ∧ ∀ b, inO q.2.o b → T b = some .ky
  tp : T p = some .pt
  tv : T y.vm = some .vm
  tl : T y.lm = some .lm
  tw : T y.wm = some .wm
  tln : ∀ q ∈ y.L, T q.2.p = some (.ln q.1) ∧ ∀ b, inO q.2.o b → T b = some (.fr q.1)
  tst : ∀ q ∈ y.W, T q.2.1 = some (.st q.1)
  lt : ∀ b, T b ≠ none → b < w.heap.size
  sv : ∀ m, s.V m = (fnd m y.V).map MV.vr
  sl : ∀ k, s.last k = lastOf y.L k
  hv : ∀ k i, s.V (k, i) ≠ none → ∃ x, fnd k y.L = some x
  fr : ∀ q ∈ y.L, Hp.Heap q.2.fr ∧ q.2.fr.Nodup ∧ ∀ i, i ∈ q.2.fr ↔ ∃ v, s.V (q.1, i) = some v ∧ v.stamp = -1
  sw : ∀ i k, s.V (k, i) ≠ none ↔ ∃ x, fnd i y.W = some x ∧ k ∈ x.2
  wn : ∀ q ∈ y.W, q.2.2 ≠ []
  la : ∀ q ∈ y.L, q.2.last < 18446744073709551616
  nv : y.V.length ≤ N
  nl : y.L.length ≤ N
  nw : y.W.length ≤ N
  ns : ∀ q ∈ y.W, q.2.2.length ≤ N
  nf : ∀ q ∈ y.L, q.2.fr.length ≤ N
def IsS (w : World) (p : Nat) (T : Nat → Option Ro) (s : St) (N : Nat) : Prop := ∃ y, SL w p T s N y
theorem SL.keeps {S : Nat → Prop} {w w' : World} {p : Nat} {T : Nat → Option Ro} {s : St} {N : Nat} {y : Lay} (h : SL w p T s N y) (hk : Keeps S w w') (hS : ∀ b, T b ≠ none → ¬ S b) : SL w' p T s N y := by
  have hn : ∀ {b r}, T b = some r → ¬ S b := fun {b r} e => hS b (by rw [e]; simp)
  exact { h with
    blk := hk.at h.blk (hn h.tp)
    mv := h.mv.keeps hk (hn h.tv)
    ml := h.ml.keeps hk (hn h.tl)
    mw := h.mw.keeps hk (hn h.tw)
    line := fun q hq => (h.line q hq).keeps hk (hn (h.tln q hq).1) (fun b hb => hn ((h.tln q hq).2 b hb))
    set := fun q hq => (h.set q hq).keeps hk (hn (h.tst q hq))
    key := fun q hq => ⟨(h.key q hq).1.keeps hk (fun b hb => hn ((h.key q hq).2 b hb)), (h.key q hq).2⟩
    lt := fun b hb => Nat.lt_of_lt_of_le (h.lt b hb) hk.size }
theorem IsS.keeps {S : Nat → Prop} {w w' : World} {p : Nat} {T : Nat → Option Ro} {s : St} {N : Nat} (h : IsS w p T s N) (hk : Keeps S w w') (hS : ∀ b, T b ≠ none → ¬ S b) : IsS w' p T s N := by
  obtain ⟨y, h⟩ := h
  exact ⟨y, h.keeps hk hS⟩
theorem IsS.keepsN {w w' : World} {p : Nat} {T : Nat → Option Ro} {s : St} {N : Nat} (h : IsS w p T s N) (hk : Keeps no w w') : IsS w' p T s N := h.keeps hk (fun _ _ => id)
theorem IsS.lt {w : World} {p : Nat} {T : Nat → Option Ro} {s : St} {N : Nat} (h : IsS w p T s N) : ∀ b, T b ≠ none → b < w.heap.size := by
  obtain ⟨y, h⟩ := h
  exact h.lt
theorem SL.more {w : World} {p : Nat} {T : Nat → Option Ro} {s : St} {N M : Nat} {y : Lay} (h : SL w p T s N y) (hM : N ≤ M) : SL w p T s M y :=
  { h with nv := Nat.le_trans h.nv hM, nl := Nat.le_trans h.nl hM, nw := Nat.le_trans h.nw hM, ns := fun q hq => Nat.le_trans (h.ns q hq) hM, nf := fun q hq => Nat.le_trans (h.nf q hq) hM }
theorem IsS.more {w : World} {p : Nat} {T : Nat → Option Ro} {s : St} {N M : Nat} (h : IsS w p T s N) (hM : N ≤ M) : IsS w p T s M := by
  obtain ⟨y, h⟩ := h
  exact ⟨y, h.more hM⟩
theorem tag_ne {T : Nat → Option Ro} {a b : Nat} {r s : Ro} (ha : T a = some r) (hb : T b = some s) (h : r ≠ s) : a ≠ b := by
  rintro rfl; rw [ha] at hb; injection hb with hb; exact h hb
theorem SL.okM {w : World} {p : Nat} {T : Nat → Option Ro} {s : St} {N : Nat} {y : Lay} (h : SL w p T s N y) {m : Mk} (hm : s.V m ≠ none) : KM.ok m := by
  rw [h.sv] at hm
  cases hf : fnd m y.V with
  | none => rw [hf] at hm; exact absurd rfl hm
  | some v => exact h.mv.ko _ (fnd_mem hf)
theorem perm_cons_del {κ β : Type} [DecidableEq κ] {k : κ} {x : β} : ∀ {L : List (κ × β)}, Nk L → fnd k L = some x → L.Perm ((k, x) :: del k L)
  | [], _, h => by simp [fnd] at h
  | p :: r, hn, h => by
    obtain ⟨h1, h2⟩ := List.pairwise_cons.1 hn
    simp only [fnd] at h
    by_cases hp : p.1 = k
    · rw [if_pos hp] at h
      have e1 : del k (p :: r) = del k r := by simp [del, hp]
      have e2 : p = (k, x) := by rw [← hp]; injection h with h; rw [← h]
      rw [e1, del_none (fnd_none.2 fun q hq e => h1 q hq (by rw [hp, e])), ← e2]
    · rw [if_neg hp] at h
      have e1 : del k (p :: r) = p :: del k r := by simp [del, hp]
      rw [e1]
      exact ((perm_cons_del h2 h).cons p).trans (List.Perm.swap _ _ _)
theorem IsMp.same {κ β : Type} [DecidableEq κ] {K : Kk κ} {V : β → Value} {w : World} {b : Nat} {L : List (κ × β)} (h : IsMp K V w b L) (hK : K.Law) {k : κ} {x x' : β} (hf : fnd k L = some x) (hx : V x' = V x) : IsMp K V w b (put k x' L) := by
  have hk : K.ok k := h.ko _ (fnd_mem hf)
  have ho : Ko K (put k x' L) := fun p hp => by
    rcases mem_put.1 hp with rfl | hp
    · exact hk
    · exact h.ko p hp.1
  refine isMp_of (n := L.length) (nk_put h.nk) ho ?_
  have e : dat K V (put k x' L) = dat K V L := by
    unfold dat
    congr 1
    have e1 : (put k x' L).map (ent K V) = ((k, x) :: del k L).map (ent K V) := by simp [put, ent, hx]
    have hp : ((put k x' L).map (ent K V)).Perm (L.map (ent K V)) := by rw [e1]; exact ((perm_cons_del h.nk hf).map _).symm
    exact ChangeMaps.eq_of_perm_sorted ((WideShapes.sorted_perm _).trans (hp.trans (WideShapes.sorted_perm _).symm)) (sorted_sorted hK.keyed.one _ (ent_keys hK ho) (ent_apart hK ho (nk_put h.nk))) (sorted_sorted hK.keyed.one _ (ent_keys hK h.ko) (ent_apart hK h.ko h.nk))
  rw [e]
  exact h.own
theorem fnd_setL {k : Tx} {l : List Tx} : fnd k (setL l) = none ↔ k ∉ l := by
  rw [fnd_none]
  simp [setL]
  constructor
  · intro h hk; exact h k hk rfl
  · intro h a ha e; exact h (e ▸ ha)
theorem fnd_setL_some {k : Tx} {l : List Tx} (h : k ∈ l) : fnd k (setL l) = some () := by
  cases e : fnd k (setL l) with
  | none => exact absurd h (fnd_setL.1 e)
  | some u => rfl
theorem nk_setL {l : List Tx} : Nk (setL l) ↔ l.Nodup := by
  unfold Nk setL
  rw [List.pairwise_map]
  rfl
end Go.Proofs.YtdemoghlibnooaaGreatDoor
namespace Go.Proofs.YtdemoghlibnooaaGreatDoor
open Go.RowKit
set_option linter.unusedVariables false
set_option linter.unusedSimpArgs false
theorem load_ids {w : World} {a : Addr} {o : Option Addr} {n c : Nat} (h : w.cell? a = some (.slice o n c)) : (loadVar 175 a).run Tryz.prog w = .ok (.slice o n c) w := by
  go_simp
theorem wrapNil (t : TypeId) (a : Addr) (x y : ByteArray) (w : World) : (Builtin.ssaWrapNilChk_ #[t] t #[.pointer (some a), .string x, .string y]).run Tryz.prog w = .ok (.pointer (some a)) w := by kernel_rfl
theorem fInfo {name : String} {f : FuncId} (h : (Tryz.t212.methods.find? fun x => x.name == name).map (fun m => (m.path, m.func)) = some (#[], some (f, false))) (q : Nat) (a : Addr) (w : World) :
    (method (q + 1) 212 (.pointer (some a)) name).run Tryz.prog w = ((loadVar 175 a).run Tryz.prog w).andThen fun v w' => .ok (f, v) w' := by
  cases hm : Tryz.t212.methods.find? fun x => x.name == name with
  | none => rw [hm] at h; cases h
  | some m =>
    rw [hm] at h
    simp only [Option.map_some, Option.some.injEq, Prod.mk.injEq] at h
    obtain ⟨hp, hf⟩ := h
    unfold method
    simp [hm, hp, hf, follow, receiverAt, Place.get, strVal, wrapNil, asAddr]
theorem reach0 (q : Nat) (a : Addr) (w : World) : (method (q + 1) 212 (.pointer (some a)) "Len").run Tryz.prog w = ((loadVar 175 a).run Tryz.prog w).andThen fun v w' => .ok (285, v) w' := fInfo (by kernel_rfl) q a w
theorem reach1 (q : Nat) (a : Addr) (w : World) : (method (q + 1) 212 (.pointer (some a)) "Less").run Tryz.prog w = ((loadVar 175 a).run Tryz.prog w).andThen fun v w' => .ok (286, v) w' := fInfo (by kernel_rfl) q a w
theorem reach2 (q : Nat) (a : Addr) (w : World) : (method (q + 1) 212 (.pointer (some a)) "Swap").run Tryz.prog w = ((loadVar 175 a).run Tryz.prog w).andThen fun v w' => .ok (287, v) w' := fInfo (by kernel_rfl) q a w
theorem reach3 (q : Nat) (v : Value) (w : World) : (method (q + 1) 212 v "Pop").run Tryz.prog w = .ok (288, v) w := by kernel_rfl
theorem reach4 (q : Nat) (v : Value) (w : World) : (method (q + 1) 212 v "Push").run Tryz.prog w = .ok (289, v) w := by kernel_rfl
theorem rLen {w : World} {a : Addr} {o : Option Addr} {n c : Nat} (h : w.cell? a = some (.slice o n c)) : (method 450 212 (.pointer (some a)) "Len").run Tryz.prog w = .ok (285, .slice o n c) w := by
  have := reach0 449 a w
  rw [load_ids h] at this
  exact this
theorem rLess {w : World} {a : Addr} {o : Option Addr} {n c : Nat} (h : w.cell? a = some (.slice o n c)) : (method 450 212 (.pointer (some a)) "Less").run Tryz.prog w = .ok (286, .slice o n c) w := by
  have := reach1 449 a w
  rw [load_ids h] at this
  exact this
theorem rSwap {w : World} {a : Addr} {o : Option Addr} {n c : Nat} (h : w.cell? a = some (.slice o n c)) : (method 450 212 (.pointer (some a)) "Swap").run Tryz.prog w = .ok (287, .slice o n c) w := by
  have := reach2 449 a w
  rw [load_ids h] at this
  exact this
theorem rPop (v : Value) (w : World) : (method 450 212 v "Pop").run Tryz.prog w = .ok (288, v) w := reach3 449 v w
theorem rPush (v : Value) (w : World) : (method 450 212 v "Push").run Tryz.prog w = .ok (289, v) w := reach4 449 v w
end Go.Proofs.YtdemoghlibnooaaGreatDoor
namespace Go.Proofs.YtdemoghlibnooaaGreatDoor
open Go.RowKit
set_option linter.unusedVariables false
set_option linter.unusedSimpArgs false
theorem keeps_grownQ (W : World) (d : Nat) (os : Array Obj) : Keeps no W (Sort.grow (redrawn W d) os) := Keeps.of_below (below_regrown W d os)
theorem grown_keepsQ {W X : World} (h : Keeps no W X) : ∃ p : Regrown, X = Sort.grow (redrawn W p.d) p.os := regrown_of_below (h.below (Nat.le_refl _) (fun _ h => h.elim))
theorem call_grown {f : FuncId} {args : Array Value} {W : World} {v : Value} (h : ∀ X, Keeps no W X → Calls Tryz.prog f args X fun e w' => e = .returned v ∧ Keeps no X w') (d : Nat) (os : Array Obj) :
    Calls Tryz.prog f args (Sort.grow (redrawn W d) os) fun e w'' => e = .returned v ∧ ∃ p : Regrown, w'' = Sort.grow (redrawn W p.d) p.os :=
  (h _ (keeps_grownQ W d os)).mono fun e w' ⟨he, hk⟩ => ⟨he, grown_keepsQ ((keeps_grownQ W d os).trans hk)⟩
end Go.Proofs.YtdemoghlibnooaaGreatDoor
namespace Go.Proofs.YtdemoghlibnooaaGreatDoor
open Go.RowKit
set_option linter.unusedVariables false
set_option linter.unusedSimpArgs false
theorem cells_I (l : List Nat) : IE.cells l = l.map fun (n : Nat) => Value.int .u64 (n : Int) := by
  induction l with
  | nil => rfl
  | cons x r ih => simp [El.cells, IE] at ih ⊢; exact ih
theorem Own.setI {w : World} {g c : Nat} {l : List Nat} (h : Own IE w (some ⟨g, 0, none⟩) c l) {i : Nat} (hi : i < l.length) (v : Nat) :
    Own IE (w.setCell ⟨g, i, none⟩ (.int .u64 (v : Int))) (some ⟨g, 0, none⟩) c (l.set i v) := by
  rcases h.shape with ⟨e, _⟩ | ⟨g', cur, e, hg, h2, h3, h4, h5⟩
  · cases e
  · cases e
    refine own_of_shape okI (blk_set hg i _) (by simp; exact h2) h3 (by simpa using h4) ?_
    rw [cells_I] at h5 ⊢
    have hk : IE.k = 1 := rfl
    rw [hk, Nat.mul_one] at h5 ⊢
    have h4' : cur.size = c := by simpa [hk] using h4
    rw [List.length_set, Array.toList_setIfInBounds, List.take_set, h5, List.map_set]
theorem Own.g0 {α : Type} {E : El α} {w : World} {o : Option Addr} {c : Nat} {xs : List α} (h : Own E w o c xs) (hl : 0 < xs.length) : ∃ g, o = some ⟨g, 0, none⟩ := by
  rcases h.shape with ⟨_, _, e⟩ | ⟨g, cur, e, _⟩
  · rw [e] at hl; simp at hl
  · exact ⟨g, e⟩
theorem ownI_cell {w : World} {g c : Nat} {l : List Nat} (h : Own IE w (some ⟨g, 0, none⟩) c l) {i : Nat} (hi : i < l.length) : w.cell? ⟨g, i, none⟩ = some (.int .u64 ((l.getD i 0 : Nat) : Int)) ∧ w.frozen? ⟨g, i, none⟩ = false := by
  obtain ⟨b, off, e, hc⟩ := h.sl.atI hi
  cases e
  rw [Nat.zero_add] at hc
  refine ⟨hc, ?_⟩
  rcases h.shape with ⟨e, _⟩ | ⟨g', cur, e, hg, _⟩
  · cases e
  · cases e; exact frozen_of_blk hg i
theorem len_ids (w : World) (o : Option Addr) (n c : Nat) : Calls Tryz.prog 285 #[.slice o n c] w fun e w' => e = .returned (.int .i64 ((n : Nat) : Int)) ∧ w' = w := by
  go_enter Tryz.func285, Tryz.ntmps285
  go_wp2
  go_ret
  exact ⟨rfl, rfl⟩
theorem less_ids (w : World) (g n c : Nat) (l : List Nat) (h : Own IE w (some ⟨g, 0, none⟩) c l) (hn : n = l.length) (hl : (n : Int) ≤ 140737488355328) (i j : Nat) (hi : i < n) (hj : j < n) :
    Calls Tryz.prog 286 #[.slice (some ⟨g, 0, none⟩) n c, .int .i64 ((i : Nat) : Int), .int .i64 ((j : Nat) : Int)] w fun e w' => e = .returned (.bool (decide (l.getD i 0 < l.getD j 0))) ∧ Keeps no w w' := by
  have c1 := (ownI_cell h (i := i) (by omega)).1
  have c2 := (ownI_cell h (i := j) (by omega)).1
  have hi' : (i : Int) < n := by omega
  have hj' : (j : Int) < n := by omega
  generalize l.getD i 0 = x at c1 ⊢
  generalize l.getD j 0 = y at c2 ⊢
  clear h hn hi hj
  go_enter Tryz.func286, Tryz.ntmps286
  go_wp2_with fail
  go_quiet (fail)
  go_wp2_with fail
  go_ret
  exact ⟨rfl, (Keeps.refl _ _).drewN _⟩
theorem swap_ids (w : World) (g n c : Nat) (l : List Nat) (h : Own IE w (some ⟨g, 0, none⟩) c l) (hn : n = l.length) (hl : (n : Int) ≤ 140737488355328) (i j : Nat) (hi : i < n) (hj : j < n) :
    Calls Tryz.prog 287 #[.slice (some ⟨g, 0, none⟩) n c, .int .i64 ((i : Nat) : Int), .int .i64 ((j : Nat) : Int)] w fun e w' => e = .returned (.tuple #[]) ∧ Own IE w' (some ⟨g, 0, none⟩) c (Hp.swp l i j) ∧ Keeps (fun b => b = g) w w' := by
  obtain ⟨c1, f1⟩ := ownI_cell h (i := i) (by omega)
  obtain ⟨c2, f2⟩ := ownI_cell h (i := j) (by omega)
  have hi' : (i : Int) < n := by omega
  have hj' : (j : Int) < n := by omega
  have HO : Hid (Own IE ((w.setCell ⟨g, i, none⟩ (.int .u64 ((l.getD j 0 : Nat) : Int))).setCell ⟨g, j, none⟩ (.int .u64 ((l.getD i 0 : Nat) : Int))).drew (some ⟨g, 0, none⟩) c (Hp.swp l i j) ∧ Keeps (fun b => b = g) w ((w.setCell ⟨g, i, none⟩ (.int .u64 ((l.getD j 0 : Nat) : Int))).setCell ⟨g, j, none⟩ (.int .u64 ((l.getD i 0 : Nat) : Int))).drew) := by
    have h1 := (h.setI (i := i) (by omega) (l.getD j 0)).setI (i := j) (by simp; omega) (l.getD i 0)
    refine ⟨h1.keepsN (Keeps.refl no _).drew, ?_⟩
    exact (((Keeps.refl (fun b => b = g) w).setCell (p := ⟨g, i, none⟩) (.inl rfl) _).setCell (p := ⟨g, j, none⟩) (.inl rfl) _).drew
  by_cases e : i = j
  · subst e
    generalize l.getD i 0 = x at c1 HO
    clear h hn hi hj c2 f2
    go_enter Tryz.func287, Tryz.ntmps287
    go_wp2_with fail
    go_region_with (fail)
    all_goals go_wp2_with fail
    all_goals go_end0
    all_goals exact ⟨rfl, HO.out⟩
  · have e' : ¬ j = i := fun h => e h.symm
    generalize l.getD i 0 = x at c1 HO
    generalize l.getD j 0 = y at c2 HO
    clear h hn hi hj
    go_enter Tryz.func287, Tryz.ntmps287
    go_wp2_with fail
    go_region_with (fail)
    all_goals go_wp2_with fail
    all_goals go_end0
    all_goals exact ⟨rfl, HO.out⟩
theorem keeps_setB (w : World) (a i : Nat) (u : Value) : Keeps (fun k => k = a) w (w.setCell ⟨a, i, none⟩ u) :=
  (Keeps.refl (fun k => k = a) w).setCell (p := ⟨a, i, none⟩) (.inl rfl) u
theorem Own.cutL {α : Type} {E : El α} (hE : E.Ok) {w : World} {o : Option Addr} {c : Nat} {xs : List α} (h : Own E w o c xs) {n : Nat} (hn : n ≤ xs.length) : Own E w o c (xs.take n) := by
  rcases h.shape with ⟨rfl, rfl, rfl⟩ | ⟨g, cur, rfl, hg, h2, h3, h4, h5⟩
  · simpa using h
  · refine own_of_shape hE hg (by simp; omega) h3 h4 ?_
    have e : (xs.take n).length = n := by simp; omega
    have e2 : E.cells xs = E.cells (xs.take n) ++ E.cells (xs.drop n) := by rw [← cells_append, List.take_append_drop]
    have e3 : cur.toList.take (n * E.k) = (cur.toList.take (xs.length * E.k)).take (n * E.k) := by
      rw [List.take_take, Nat.min_eq_left (Nat.mul_le_mul_right _ hn)]
    rw [e, e3, h5, e2, List.take_append_of_le_length (by rw [cells_length hE, e]; exact Nat.le_refl _), List.take_of_length_le (by rw [cells_length hE, e]; exact Nat.le_refl _)]
theorem slI : Tryz.prog.underlying 175 = some (.slice (Tryz.prog.elem 175)) := by kernel_rfl
theorem cutI (o : Option Addr) (n c I : Nat) (h1 : I ≤ c) (hnil : o = none → c = 0) : ∀ w, (Instr.slice 175 (.slice o n c) none (some (.int .i64 ((I : Nat) : Int))) none).run Tryz.prog w = .ok (.slice o I c) w := by
  intro w
  match o, hnil with
  | none, hnil =>
    obtain rfl : c = 0 := hnil rfl
    obtain rfl : I = 0 := by omega
    rw [run_slice_h w 175 none _ 0 slI .i64 _ (by omega) (by omega)]
    go_simp
  | some ad, _ =>
    rw [run_slice_h w 175 (some ad) _ c slI .i64 _ (by omega) (by omega)]
    go_simp
theorem LineAt.o_p {w : World} {x y : Ln} (h : LineAt w x) (h' : LineAt w y) : ∀ k, inO x.o k → k ≠ y.p := by
  intro k hk e
  obtain ⟨cur, hc⟩ := h.own.tag k hk
  rw [e, h'.blk] at hc
  injection hc with hc
  injection hc with _ hc _
  cases hc
def Ln.with (x : Ln) (o : Option Addr) (c : Nat) (fr : List Nat) : Ln := ⟨x.p, x.last, o, c, fr⟩
theorem pop_ids (w : World) (x : Ln) (h : LineAt w x) (hl : 0 < x.fr.length) (hb : x.fr.length ≤ 140737488355328) :
    Calls Tryz.prog 288 #[.pointer (some ⟨x.p, 1, none⟩)] w fun e w' => e = .returned (.iface 43 (.int .u64 ((x.fr.getD (x.fr.length - 1) 0 : Nat) : Int))) ∧ LineAt w' (x.with x.o x.c (x.fr.take (x.fr.length - 1))) ∧ Keeps (fun b => b = x.p) w w' := by
  obtain ⟨p, la, o, c, fr⟩ := x
  simp only [Ln.with] at *
  obtain ⟨g, rfl⟩ := h.own.g0 hl
  obtain ⟨n, hn⟩ : ∃ n, n + 1 = fr.length := ⟨fr.length - 1, by omega⟩
  have d1 : w.cell? ⟨p, 1, none⟩ = some (.slice (some ⟨g, 0, none⟩) (n + 1) c) := by rw [hn]; exact cell_of_blk h.blk 1
  have f1 : w.frozen? ⟨p, 1, none⟩ = false := frozen_of_blk h.blk 1
  have e1 := (ownI_cell h.own (i := n) (by show n < fr.length; omega)).1
  simp only at e1
  rw [show fr.length - 1 = n by omega]
  have hcap : n + 1 ≤ c := by rw [hn]; exact h.own.cap.1
  have hcut := cutI (some ⟨g, 0, none⟩) (n + 1) c n (by omega) (fun e => by cases e)
  have hmx := h.own.max
  simp only at hmx
  have hn2 : (n : Int) + 1 ≤ 140737488355328 := by omega
  have HH : Hid (LineAt w ⟨p, la, some ⟨g, 0, none⟩, c, fr⟩) := h
  have HN : Hid (n + 1 = fr.length) := hn
  generalize fr.getD n 0 = z at e1 ⊢
  clear h hl hb hn hcap hmx
  go_enter Tryz.func288, Tryz.ntmps288
  go_wp2
  go_ret
  have hk := keeps_setB w p 1 (.slice (some ⟨g, 0, none⟩) n c)
  have hlen : (fr.take n).length = n := by rw [List.length_take]; have := HN.out; omega
  refine ⟨rfl, ⟨?_, (HH.out.own.cutL okI (by show n ≤ fr.length; have := HN.out; omega)).keeps hk (fun b hb e => HH.out.o_p HH.out b hb e)⟩, hk⟩
  have hb := blk_set HH.out.blk 1 (.slice (some ⟨g, 0, none⟩) n c)
  refine hb.trans ?_
  simp [lcells, hlen]
theorem step_app1 {α : Type} {E : El α} (hE : E.Ok) {w : World} {ops : Array Oper} {o : Oper} {a : Act} {K : Act → World → Prop} {Q : Exit → Act → World → Prop} {Ep : Prop} (hgd : o.guard = none) (s x : Operand)
    (ho : o.op = .call { callee := .builtin .append, args := #[s, x], argTypes := #[E.t, E.t] })
    (oa : Option Addr) (n c : Nat) (xs : List α) (hs : a.eval s = .slice oa n c) (hn : n = xs.length) (hown : Own E w oa c xs)
    (ox : Option Addr) (m d : Nat) (news : List α) (hx : a.eval x = .slice ox m d) (hm : m = news.length) (hd : ox = none → d = 0) (hrow : Row E w ox news)
    (hb : (xs.length + news.length) * E.nb ≤ 140737488355328) (hb2 : xs.length + news.length ≤ 140737488355328)
    (h : ∀ o' c' w', Own E w' o' c' (xs ++ news) → Ap w oa o' w' → K (a.put o.dst (.slice o' (n + m) c')) w') :
    if Region.wanted o (yielded ops a.tmps) = true then Oper.wp Tryz.prog o a w K Q else Ep := by
  have hw : Region.wanted o (yielded ops a.tmps) = true := by simp [Region.wanted, hgd]
  rw [if_pos hw]
  subst hn hm
  obtain ⟨o', c', w', hr, h1, h2⟩ := run_app hE w o.type oa c xs hown ox d news hd hrow hb hb2
  unfold Oper.wp execOp
  simp only [ho, resolve, invoke, builtin, Sem.run_bind, Sem.run_pure, Result.andThen_ok, List.map_toArray, List.map_cons, List.map_nil, hs, hx, hr]
  exact h o' c' w' h1 h2
theorem own_oneI (w : World) (x : Nat) : Sl IE (w.alloc (.cells #[.int .u64 (x : Int)] 43)) (some ⟨w.heap.size, 0, none⟩) 1 [x] := by
  refine ⟨.inr ⟨_, 0, rfl, fun j u hj => ?_⟩, by simp, fun e => by cases e⟩
  rw [Nat.zero_add, cell_of_blk (blk_new w _)]
  simpa [El.cells, IE] using hj
theorem Ap.at {w w' : World} {oa o' : Option Addr} (h : Ap w oa o' w') {k : Nat} {ob : Obj} (hk : w.heap[k]? = some ob) (hn : ¬ inO oa k) : w'.heap[k]? = some ob := by
  rcases h with ⟨_, h⟩ | ⟨_, h⟩
  · exact h.at hk hn
  · exact h.at hk id
theorem Ap.keeps {w w' : World} {oa o' : Option Addr} (h : Ap w oa o' w') : Keeps (inO oa) w w' ∧ ∀ b, inO o' b → inO oa b ∨ w.heap.size ≤ b := by
  rcases h with ⟨rfl, h⟩ | ⟨⟨g, rfl, hg⟩, h⟩
  · exact ⟨h, fun b hb => .inl hb⟩
  · refine ⟨h.of_no, ?_⟩
    rintro b ⟨x, e, rfl⟩
    cases e
    exact .inr hg
theorem assertI (v : Value) (w : World) : (Instr.typeAssert (.iface 43 v) 20 43 false).run Tryz.prog w = .ok v w := by kernel_rfl
set_option maxRecDepth 10000 in
theorem push_ids (w : World) (x : Ln) (i : Nat) (h : LineAt w x) (hb : x.fr.length ≤ 2000000000000) :
    Calls Tryz.prog 289 #[.pointer (some ⟨x.p, 1, none⟩), .iface 43 (.int .u64 ((i : Nat) : Int))] w fun e w' => e = .returned (.tuple #[]) ∧ ∃ o' c', LineAt w' (x.with o' c' (x.fr ++ [i])) ∧ (∀ b, inO o' b → inO x.o b ∨ w.heap.size ≤ b) ∧ Keeps (fun b => b = x.p ∨ inO x.o b) w w' := by
  obtain ⟨p, la, o, c, fr⟩ := x
  simp only [Ln.with] at *
  obtain ⟨n, hn⟩ : ∃ n, n = fr.length := ⟨_, rfl⟩
  have d1 : w.cell? ⟨p, 1, none⟩ = some (.slice o n c) := by rw [hn]; exact cell_of_blk h.blk 1
  have f1 : w.frozen? ⟨p, 1, none⟩ = false := frozen_of_blk h.blk 1
  have HH : Hid (LineAt w ⟨p, la, o, c, fr⟩) := h
  have HN : Hid (n = fr.length) := hn
  have HB : Hid ((fr.length + [i].length) * IE.nb ≤ 140737488355328 ∧ fr.length + [i].length ≤ 140737488355328) := ⟨by simp [IE]; omega, by simp; omega⟩
  obtain ⟨w0, hw0⟩ : ∃ w0, w0 = (w.alloc (.cells #[.int .u64 ((i : Nat) : Int)] 43)).drew := ⟨_, rfl⟩
  have hk0 : Keeps no w w0 := by rw [hw0]; exact ((Keeps.refl no w).alloc _).drew
  have d1' := hk0.cellN d1
  have f1' : w0.frozen? ⟨p, 1, none⟩ = false := frozen_of_blk (hk0.at h.blk id) 1
  have HO : Hid (Own IE w0 o c fr) := h.own.keepsN hk0
  have HK0 : Hid (Keeps no w w0) := hk0
  have HLB : Hid (w0.heap[p]? = some (.cells (lcells ⟨p, la, o, c, fr⟩) 177 (0, 0)) ∧ ¬ inO o p) := ⟨hk0.at h.blk id, fun e => h.o_p h p e rfl⟩
  have HR : Hid (Row IE w0 (some ⟨w.heap.size, 0, none⟩) [i]) := (show _ by rw [hw0]; exact (own_oneI w i).row.keepsN (Keeps.refl no _).drew)
  have hta := fun w => assertI (.int .u64 ((i : Nat) : Int)) w
  rw [hw0] at d1' f1' HO HK0 HR HLB
  change (w.alloc (.cells #[.int .u64 ((i : Nat) : Int)] 43)).cell? ⟨p, 1, none⟩ = _ at d1'
  change (w.alloc (.cells #[.int .u64 ((i : Nat) : Int)] 43)).frozen? ⟨p, 1, none⟩ = _ at f1'
  clear h hn hb hw0 hk0
  go_enter Tryz.func289, Tryz.ntmps289
  go_wp2_with fail
  go_region_law
    (refine step_app1 okI rfl (.tmp 7) (.tmp 10) rfl o n c fr rfl HN.out HO.out (some (Addr.mk w.heap.size 0 none)) 1 1 [i] rfl rfl (fun e => by cases e) HR.out HB.out.1 HB.out.2 ?_; intro o2 c2 w2 ho2 hap2; have hbk := hap2.at HLB.out.1 HLB.out.2; have d2 : w2.cell? ⟨p, 1, none⟩ = some (.slice o fr.length c) := cell_of_blk hbk 1; have f2 := frozen_of_blk hbk 1; have HA : Hid (Own IE w2 o2 c2 (fr ++ [i]) ∧ Ap _ o o2 w2 ∧ w2.heap[p]? = some (.cells (lcells ⟨p, la, o, c, fr⟩) 177 (0, 0))) := ⟨ho2, hap2, hbk⟩; clear ho2 hap2 hbk)
  all_goals go_wp2_with fail
  all_goals go_end0
  all_goals
    obtain ⟨ho2, hap2, hbk⟩ := HA.out
    have hk := keeps_setB w2 p 1 (.slice o2 (n + 1) c2)
    have hkk := (HK0.out.of_no.trans hap2.keeps.1)
    refine ⟨rfl, o2, c2, ⟨?_, ho2.keeps hk (fun b hb e => ?_)⟩, fun b hb => ?_, (hkk.mono (fun b hb => .inr hb)).trans (hk.mono (fun b hb => .inl hb))⟩
    · refine (blk_set hbk 1 (.slice o2 (n + 1) c2)).trans ?_
      simp [lcells, HN.out]
    · obtain ⟨cur, hcc⟩ := ho2.tag b hb
      have e' : b = p := e
      rw [e', hbk] at hcc
      injection hcc with hcc
      injection hcc with _ hcc _
      cases hcc
    · rcases hap2.keeps.2 b hb with h | h
      · exact .inl h
      · exact .inr (Nat.le_trans HK0.out.size h)
end Go.Proofs.YtdemoghlibnooaaGreatDoor
