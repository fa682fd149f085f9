import Derived.Maps.RangeWalk
import Derived.Maps.OwnSet
import Derived.Maps.Ext
import Derived.DeepKeys4
import Derived.Test.YtodblodbeobgeaaV0
/- Maps of any kind of keys, in lists without an order. -/
namespace Go.Proofs.Ytodblodbeobgeaa
open Go.RowKit Go.Maps
set_option linter.unusedVariables false
set_option linter.unusedSimpArgs false

/-- a kind of keys -/
structure Kk (κ : Type) where
  t : TypeId
  val : κ → Value
  lit : κ → Lit
  ok : κ → Prop
structure Kk.Law {κ : Type} (K : Kk κ) : Prop where
  keyed : Keyed Try.prog K.t
  key : ∀ k, K.ok k → keyOf Try.prog K.t (K.val k) = some (K.lit k)
  inv : ∀ v l, keyOf Try.prog K.t v = some l → ∃ k, v = K.val k ∧ l = K.lit k ∧ K.ok k
  vinj : ∀ a b, K.val a = K.val b → a = b
/-- every value is read as itself -/
def rdV (v : Value) : Option (DataW Value × List MemPlace) := some (.held v, [])

section
variable {κ β : Type} [DecidableEq κ]
def fnd (k : κ) : List (κ × β) → Option β
  | [] => none
  | p :: r => if p.1 = k then some p.2 else fnd k r
def del (k : κ) (L : List (κ × β)) : List (κ × β) := L.filter fun p => decide (p.1 ≠ k)
def put (k : κ) (v : β) (L : List (κ × β)) : List (κ × β) := (k, v) :: del k L
def Nk (L : List (κ × β)) : Prop := L.Pairwise fun p q => p.1 ≠ q.1
theorem fnd_none {k : κ} : ∀ {L : List (κ × β)}, fnd k L = none ↔ ∀ p ∈ L, p.1 ≠ k
  | [] => by simp [fnd]
  | p :: r => by
    simp only [fnd]
    split
    · rename_i h; simp [h]
    · rename_i h; simp [h, fnd_none (L := r)]
theorem fnd_mem {k : κ} {v : β} : ∀ {L : List (κ × β)}, fnd k L = some v → (k, v) ∈ L
  | [], h => by simp [fnd] at h
  | p :: r, h => by
    simp only [fnd] at h
    split at h
    · rename_i e; cases h; subst e; simp
    · exact List.mem_cons_of_mem _ (fnd_mem h)
theorem fnd_of_mem {k : κ} {v : β} : ∀ {L : List (κ × β)}, Nk L → (k, v) ∈ L → fnd k L = some v
  | [], _, h => by simp at h
  | p :: r, hn, h => by
    obtain ⟨h1, h2⟩ := List.pairwise_cons.1 hn
    simp only [fnd]
    rcases List.mem_cons.1 h with e | h
    · subst e; simp
    · rw [if_neg (h1 _ h)]; exact fnd_of_mem h2 h
theorem mem_del {k : κ} {L : List (κ × β)} {p : κ × β} : p ∈ del k L ↔ p ∈ L ∧ p.1 ≠ k := by simp [del]
theorem mem_put {k : κ} {v : β} {L : List (κ × β)} {p : κ × β} : p ∈ put k v L ↔ p = (k, v) ∨ (p ∈ L ∧ p.1 ≠ k) := by simp [put, mem_del]
theorem nk_del {k : κ} {L : List (κ × β)} (h : Nk L) : Nk (del k L) := List.Pairwise.filter _ h
theorem nk_put {k : κ} {v : β} {L : List (κ × β)} (h : Nk L) : Nk (put k v L) := List.pairwise_cons.2 ⟨fun q hq => fun e => (mem_del.1 hq).2 e.symm, nk_del h⟩
theorem fnd_del (k k' : κ) : ∀ L : List (κ × β), fnd k' (del k L) = if k' = k then none else fnd k' L
  | [] => by simp [del, fnd]
  | p :: r => by
    have ih := fnd_del k k' r
    by_cases hp : p.1 = k
    · have e1 : del k (p :: r) = del k r := by simp [del, hp]
      rw [e1, ih]
      simp only [fnd]
      split
      · rfl
      · rename_i h
        rw [if_neg (fun e => h (by rw [← e, hp]))]
    · have e1 : del k (p :: r) = p :: del k r := by simp [del, hp]
      rw [e1]
      simp only [fnd]
      rw [ih]
      split
      · rename_i h
        rw [if_neg (fun e => hp (by rw [h, e]))]
      · rfl
theorem fnd_put (k k' : κ) (v : β) (L : List (κ × β)) : fnd k' (put k v L) = if k' = k then some v else fnd k' L := by
  show (if k = k' then some v else fnd k' (del k L)) = _
  rw [fnd_del]
  by_cases h : k' = k
  · subst h; simp
  · rw [if_neg (fun e => h e.symm), if_neg h, if_neg h]
theorem del_none {k : κ} {L : List (κ × β)} (h : fnd k L = none) : del k L = L := List.filter_eq_self.2 fun p hp => by simpa using fnd_none.1 h p hp
theorem length_del_le (k : κ) (L : List (κ × β)) : (del k L).length ≤ L.length := List.length_filter_le _ _
theorem length_put_le (k : κ) (v : β) (L : List (κ × β)) : (put k v L).length ≤ L.length + 1 := by have := length_del_le k L; simp [put]; omega
theorem length_put_none {k : κ} {v : β} {L : List (κ × β)} (h : fnd k L = none) : (put k v L).length = L.length + 1 := by simp [put, del_none h]
theorem length_del_some {k : κ} : ∀ {L : List (κ × β)}, Nk L → ∀ {v}, fnd k L = some v → (del k L).length + 1 = L.length
  | [], _, v, h => by simp [fnd] at h
  | p :: r, hn, v, h => by
    obtain ⟨h1, h2⟩ := List.pairwise_cons.1 hn
    simp only [fnd] at h
    by_cases hp : p.1 = k
    · have e1 : del k (p :: r) = del k r := by simp [del, hp]
      rw [e1, del_none (fnd_none.2 fun q hq e => h1 q hq (by rw [hp, e])), List.length_cons]
    · rw [if_neg hp] at h
      have e1 : del k (p :: r) = p :: del k r := by simp [del, hp]
      have := length_del_some h2 h
      rw [e1, List.length_cons, List.length_cons]; omega
theorem length_put_some {k : κ} {v u : β} {L : List (κ × β)} (hn : Nk L) (h : fnd k L = some u) : (put k v L).length = L.length := by
  have := length_del_some hn h; simp [put]; omega
end

section
variable {κ β : Type} {K : Kk κ} {V : β → Value}
def ent (K : Kk κ) (V : β → Value) (p : κ × β) : Lit × DataW Value := (K.lit p.1, .held (V p.2))
def dat (K : Kk κ) (V : β → Value) (L : List (κ × β)) : DataW Value := .map ((L.map (ent K V)).foldr DataW.insert [])
def Ko (K : Kk κ) (L : List (κ × β)) : Prop := ∀ p ∈ L, K.ok p.1
theorem Kk.Law.inj (h : K.Law) {a b : κ} (ha : K.ok a) (hb : K.ok b) (e : K.lit a = K.lit b) : a = b :=
  h.vinj _ _ (h.keyed.inj (h.key a ha) (by rw [e]; exact h.key b hb))
theorem Kk.Law.isKey (h : K.Law) {k : κ} (hk : K.ok k) : WideAt.IsKeyLit (K.lit k) := h.keyed.key (h.key k hk)
theorem ent_keys (h : K.Law) {L : List (κ × β)} (ho : Ko K L) : Keys (KeysOf Try.prog K.t) (L.map (ent K V)) := by
  intro p hp
  obtain ⟨q, hq, rfl⟩ := List.mem_map.1 hp
  exact ⟨_, h.key _ (ho q hq)⟩
theorem ent_apart (h : K.Law) {L : List (κ × β)} (ho : Ko K L) (hn : Nk L) : (L.map (ent K V)).Pairwise (fun p q => p.1 ≠ q.1) := by
  rw [List.pairwise_map]
  refine List.Pairwise.imp_of_mem ?_ hn
  intro a b ha hb hne e
  exact hne (h.inj (ho a ha) (ho b hb) e)
theorem ent_del [DecidableEq κ] (h : K.Law) {L : List (κ × β)} (ho : Ko K L) {k : κ} (hk : K.ok k) : (L.map (ent K V)).filter (ChangeMaps.notKey (K.lit k)) = (del k L).map (ent K V) := by
  rw [List.filter_map]
  congr 1
  refine List.filter_congr fun p hp => ?_
  have e := notKey_iff (H := Value) (p := ent K V p) (h.isKey hk)
  by_cases hpk : p.1 = k
  · have : ¬ (ChangeMaps.notKey (K.lit k) (ent K V p) = true) := fun hh => e.1 hh (by simp [ent, hpk])
    simp [hpk, this]
  · have : ChangeMaps.notKey (K.lit k) (ent K V p) = true := e.2 (fun hh => hpk (h.inj (ho p hp) hk hh))
    simp [hpk, this]
theorem dat_put [DecidableEq κ] (h : K.Law) {L : List (κ × β)} (ho : Ko K L) (hn : Nk L) {k : κ} (hk : K.ok k) (v : β) : (dat K V L).put (K.lit k) (.held (V v)) = dat K V (put k v L) := by
  unfold dat
  rw [DataW.put_eq, sorted_put h.keyed.one ⟨_, h.key k hk⟩ (ent_keys h ho) (ent_apart h ho hn) (E' := (put k v L).map (ent K V)) (by rw [ent_del h ho hk]; exact List.Perm.refl _)]
theorem dat_del [DecidableEq κ] (h : K.Law) {L : List (κ × β)} (ho : Ko K L) (hn : Nk L) {k : κ} (hk : K.ok k) : (dat K V L).del (K.lit k) = dat K V (del k L) := by
  unfold dat
  rw [DataW.del_eq, sorted_del h.keyed.one (ent_keys h ho) (ent_apart h ho hn) (E' := (del k L).map (ent K V)) (by rw [ent_del h ho hk])]
theorem ent_rising (h : K.Law) {L : List (κ × β)} (ho : Ko K L) (hn : Nk L) : DataW.rising ((L.map (ent K V)).foldr DataW.insert []) = true :=
  ChangeMaps.rising_of_pairwise _ (sorted_sorted h.keyed.one _ (ent_keys h ho) (ent_apart h ho hn))
theorem dat_at_some [DecidableEq κ] (h : K.Law) {L : List (κ × β)} (ho : Ko K L) (hn : Nk L) {k : κ} (hk : K.ok k) {v : β} (hf : fnd k L = some v) (z : DataW Value) : (dat K V L).atKey (K.lit k) z = .held (V v) :=
  (WideShapes.atKey_sorted (L.map (ent K V)) (ent_rising h ho hn) (K.lit k) (h.isKey hk)).2 (ent K V (k, v)) (List.mem_map.2 ⟨_, fnd_mem hf, rfl⟩) rfl z
theorem dat_at_none [DecidableEq κ] (h : K.Law) {L : List (κ × β)} (ho : Ko K L) (hn : Nk L) {k : κ} (hk : K.ok k) (hf : fnd k L = none) (z : DataW Value) : (dat K V L).atKey (K.lit k) z = z := by
  refine (WideShapes.atKey_sorted (L.map (ent K V)) (ent_rising h ho hn) (K.lit k) (h.isKey hk)).1 (fun p hp e => ?_) z
  obtain ⟨q, hq, rfl⟩ := List.mem_map.1 hp
  exact fnd_none.1 hf q hq (h.inj (ho q hq) hk e)
theorem dat_has [DecidableEq κ] (h : K.Law) {L : List (κ × β)} (ho : Ko K L) (hn : Nk L) {k : κ} (hk : K.ok k) : Maps.has (dat K V L) (K.lit k) = (fnd k L).isSome := by
  cases hf : fnd k L with
  | none => exact has_false_of_atKey (dat_at_none h ho hn hk hf)
  | some v => exact has_true_of_atKey (dat_at_some h ho hn hk hf)
theorem dat_size (L : List (κ × β)) : Maps.size (dat K V L) = L.length := by simp [dat, Maps.size, length_sorted]

/-- block b is a map of these -/
structure IsMp (K : Kk κ) (V : β → Value) (w : World) (b : Nat) (L : List (κ × β)) : Prop where
  nk : Nk L
  ko : Ko K L
  own : w.ownsMap Try.prog K.t rdV b L.length (dat K V L)
theorem isMp_of {w : World} {b n : Nat} {L : List (κ × β)} (hn : Nk L) (ho : Ko K L) (h : w.ownsMap Try.prog K.t rdV b n (dat K V L)) : IsMp K V w b L := by
  refine ⟨hn, ho, ?_⟩
  obtain ⟨es, clock, hh, F, hs, hD⟩ := h
  refine ⟨es, clock, hh, F, ?_, hD⟩
  have : Maps.size (dat K V L) = es.size := by rw [hD]; simp [Maps.size, length_sorted]
  rw [dat_size] at this
  omega
theorem IsMp.keeps {S : Nat → Prop} {w w' : World} {b : Nat} {L : List (κ × β)} (h : IsMp K V w b L) (hk : Keeps S w w') (hb : ¬ S b) : IsMp K V w' b L := by
  obtain ⟨es, clock, hh, r⟩ := h.own
  exact ⟨h.nk, h.ko, es, clock, hk.at hh hb, r⟩
theorem IsMp.keepsN {w w' : World} {b : Nat} {L : List (κ × β)} (h : IsMp K V w b L) (hk : Keeps no w w') : IsMp K V w' b L := h.keeps hk id
theorem IsMp.lt {w : World} {b : Nat} {L : List (κ × β)} (h : IsMp K V w b L) : b < w.heap.size := h.own.lt
theorem IsMp.obj {w : World} {b : Nat} {L : List (κ × β)} (h : IsMp K V w b L) : ∃ es clock, w.heap[b]? = some (.map es clock) := by
  obtain ⟨es, clock, hh, r⟩ := h.own
  exact ⟨es, clock, hh⟩
theorem IsMp.len_le {w : World} {b : Nat} {L : List (κ × β)} (h : IsMp K V w b L) : L.length ≤ maxLen := by
  obtain ⟨es, clock, hh, F, hs, hD⟩ := h.own
  have : Maps.size (dat K V L) = es.size := by rw [hD]; simp [Maps.size, length_sorted]
  rw [dat_size] at this
  have := F.size
  omega
theorem isMp_made (w : World) : IsMp K V (w.alloc (.map #[] 0)) w.heap.size ([] : List (κ × β)) := ⟨List.Pairwise.nil, fun p hp => by simp at hp, World.ownsMap_made w Try.prog K.t rdV⟩
theorem held_inj {a b : Value} (h : (DataW.held a : DataW Value) = .held b) : a = b := by injection h
theorem rdV_inv {v : Value} {d : DataW Value} {ps : List MemPlace} (h : rdV v = some (d, ps)) : d = .held v := by
  unfold rdV at h; injection h with h; injection h with h _; exact h.symm
theorem IsMp.look_some [DecidableEq κ] {w : World} {b : Nat} {L : List (κ × β)} (h : IsMp K V w b L) (hK : K.Law) {t e : TypeId} (ht : Try.prog.underlying t = some (.map K.t e)) {z : Value} (hz : (zeroValue e).run Try.prog w = .ok z w) {k : κ} (hk : K.ok k) {v : β} (hf : fnd k L = some v) :
    (Instr.lookup t (.map (some b)) (K.val k) false).run Try.prog w = .ok (V v) w := by
  obtain ⟨u, ps, hrun, hv⟩ := h.own.lookup hK.keyed ht hz (zd := .held z) (zp := []) rfl (hK.key k hk)
  rw [dat_at_some hK h.ko h.nk hk hf] at hv
  have := held_inj (rdV_inv hv)
  rw [hrun, this]
theorem IsMp.look_none [DecidableEq κ] {w : World} {b : Nat} {L : List (κ × β)} (h : IsMp K V w b L) (hK : K.Law) {t e : TypeId} (ht : Try.prog.underlying t = some (.map K.t e)) {z : Value} (hz : (zeroValue e).run Try.prog w = .ok z w) {k : κ} (hk : K.ok k) (hf : fnd k L = none) :
    (Instr.lookup t (.map (some b)) (K.val k) false).run Try.prog w = .ok z w := by
  obtain ⟨u, ps, hrun, hv⟩ := h.own.lookup hK.keyed ht hz (zd := .held z) (zp := []) rfl (hK.key k hk)
  rw [dat_at_none hK h.ko h.nk hk hf] at hv
  have := held_inj (rdV_inv hv)
  rw [hrun, this]
theorem IsMp.look2_some [DecidableEq κ] {w : World} {b : Nat} {L : List (κ × β)} (h : IsMp K V w b L) (hK : K.Law) {t e : TypeId} (ht : Try.prog.underlying t = some (.map K.t e)) {z : Value} (hz : (zeroValue e).run Try.prog w = .ok z w) {k : κ} (hk : K.ok k) {v : β} (hf : fnd k L = some v) :
    (Instr.lookup t (.map (some b)) (K.val k) true).run Try.prog w = .ok (.tuple #[V v, .bool true]) w := by
  obtain ⟨u, ps, hrun, hv⟩ := h.own.look_ok hK.keyed ht hz (zd := .held z) (zp := []) rfl (hK.key k hk)
  rw [dat_at_some hK h.ko h.nk hk hf] at hv
  have := held_inj (rdV_inv hv)
  rw [hrun, this, dat_has hK h.ko h.nk hk, hf]
  rfl
theorem IsMp.look2_none [DecidableEq κ] {w : World} {b : Nat} {L : List (κ × β)} (h : IsMp K V w b L) (hK : K.Law) {t e : TypeId} (ht : Try.prog.underlying t = some (.map K.t e)) {z : Value} (hz : (zeroValue e).run Try.prog w = .ok z w) {k : κ} (hk : K.ok k) (hf : fnd k L = none) :
    (Instr.lookup t (.map (some b)) (K.val k) true).run Try.prog w = .ok (.tuple #[z, .bool false]) w := by
  obtain ⟨u, ps, hrun, hv⟩ := h.own.look_ok hK.keyed ht hz (zd := .held z) (zp := []) rfl (hK.key k hk)
  rw [dat_at_none hK h.ko h.nk hk hf] at hv
  have := held_inj (rdV_inv hv)
  rw [hrun, this, dat_has hK h.ko h.nk hk, hf]
  rfl
theorem IsMp.len {w : World} {b : Nat} {L : List (κ × β)} (h : IsMp K V w b L) {t e : TypeId} (ht : Try.prog.underlying t = some (.map K.t e)) (ty : TypeId) : (Builtin.len_ #[t] ty #[.map (some b)]).run Try.prog w = .ok (.int .i64 ((L.length : Nat) : Int)) w := by
  rw [h.own.len ht ty, dat_size]
theorem keeps_of_grown {w w' : World} {a : Nat} (h : w.grownBy w' (some a)) : Keeps (fun i => i = a) w w' := (Keeps.refl _ w).grown h (fun k hk => .inl (by cases hk; rfl))
theorem keeps_of_grown0 {w w' : World} (h : w.grownBy w' none) : Keeps no w w' := (Keeps.refl _ w).grown h (fun k hk => by cases hk)
theorem grown_of {w w' : World} {a : Nat} (h : Keeps (fun i => i = a) w w') : w.grownBy w' (some a) := ⟨h.os, h.tape, h.output, h.size, fun i hi hne => h.block i hi (fun e => hne (by rw [e]))⟩
end

section
variable {κ β : Type} {w : World} {ops : Array Oper} {rest : List Oper} {o : Oper} {a : Act} {Q : Exit → Act → World → Prop}
/-- m[k] = v -/
theorem wpList_mput [DecidableEq κ] (hg : o.guard = none) (m x v : Operand) (t : TypeId) (hop : o.op = Op.mapUpdate t m x v) (K : Kk κ) (hK : K.Law) (V : β → Value) (e : TypeId) (ht : Try.prog.underlying t = some (.map K.t e)) (b : Nat) (L : List (κ × β)) (hm : a.eval m = .map (some b)) (h : IsMp K V w b L) (hl : L.length < maxLen)
    (k : κ) (y : β) (hx : a.eval x = K.val k) (hv : a.eval v = V y) (hk : K.ok k)
    (hQ : ∀ w', IsMp K V w' b (put k y L) → Keeps (fun i => i = b) w w' → w'.heap.size = w.heap.size → wpList Try.prog ops Q rest (a.put o.dst undef) w') : wpList Try.prog ops Q (o :: rest) a w := by
  refine wpList_mapUpdate_in w hg m x v t hop K.t e hK.keyed ht rdV b L.length _ hm h.own hl (K.val k) (V y) (K.lit k) hx hv (hK.key k hk) (.held (V y)) [] rfl ?_
  intro w' h1 ht1
  rw [dat_put hK h.ko h.nk hk] at h1
  refine hQ w' (isMp_of (nk_put h.nk) (fun p hp => ?_) h1) (keeps_of_grown ht1.grown) ?_
  · rcases mem_put.1 hp with rfl | hp
    · exact hk
    · exact h.ko p hp.1
  · obtain ⟨_, _, _, _, _, rfl⟩ := ht1; simp [ChangeMaps.setBlock]
/-- delete(m, k) -/
theorem wpList_mdel [DecidableEq κ] (hg : o.guard = none) (m x : Operand) (t : TypeId) (K : Kk κ) (hop : o.op = Op.call { callee := Callee.builtin Builtin.delete, args := #[m, x], argTypes := #[t, K.t] }) (hK : K.Law) (V : β → Value) (e : TypeId) (ht : Try.prog.underlying t = some (.map K.t e)) (b : Nat) (L : List (κ × β)) (hm : a.eval m = .map (some b)) (h : IsMp K V w b L)
    (k : κ) (hx : a.eval x = K.val k) (hk : K.ok k)
    (hQ : ∀ w', IsMp K V w' b (del k L) → Keeps (fun i => i = b) w w' → w'.heap.size = w.heap.size → wpList Try.prog ops Q rest (a.put o.dst (.tuple #[])) w') : wpList Try.prog ops Q (o :: rest) a w := by
  refine wpList_delete_own w hg m x t K.t hop e hK.keyed ht rdV b L.length _ hm h.own (K.val k) (K.lit k) hx (hK.key k hk) ?_
  intro w' h1 ht1
  rw [dat_del hK h.ko h.nk hk] at h1
  refine hQ w' (isMp_of (nk_del h.nk) (fun p hp => h.ko p (mem_del.1 hp).1) h1) (keeps_of_grown ht1.grown) ?_
  obtain ⟨_, _, _, _, _, rfl⟩ := ht1; simp [ChangeMaps.setBlock]

end
end Go.Proofs.Ytodblodbeobgeaa
