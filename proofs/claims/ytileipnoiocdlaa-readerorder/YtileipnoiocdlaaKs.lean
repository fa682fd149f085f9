import Derived.Maps.RangeWalk
import Derived.Maps.OwnSet
import Derived.Maps.Ext
import Derived.DeepKeys4
import Derived.Test.YtileipnoiocdlaaH1
/- Maps of any kind of keys, in lists without an order. -/
namespace Go.Proofs.Ytileipnoiocdlaa
open Go.RowKit Go.Maps
set_option linter.unusedVariables false
set_option linter.unusedSimpArgs false

/-- a kind of keys -/
structure Kk (κ : Type) where
  t : TypeId
  val : κ → Value
  lit : κ → Lit
  ok : κ → Prop
structure Kk.Law {κ : Type} (K : Kk κ) : Prop where
  keyed : Keyed Try.prog K.t
  key : ∀ k, K.ok k → keyOf Try.prog K.t (K.val k) = some (K.lit k)
  inv : ∀ v l, keyOf Try.prog K.t v = some l → ∃ k, v = K.val k ∧ l = K.lit k ∧ K.ok k
  vinj : ∀ a b, K.val a = K.val b → a = b
/-- every value is read as itself -/
def rdV (v : Value) : Option (DataW Value × List MemPlace) := some (.held v, [])

section
variable {κ β : Type} [DecidableEq κ]
def fnd (k : κ) : List (κ × β) → Option β
  | [] => none
  | p :: r => if p.1 = k then some p.2 else fnd k r
def del (k : κ) (L : List (κ × β)) : List (κ × β) := L.filter fun p => decide (p.1 ≠ k)
def put (k : κ) (v : β) (L : List (κ × β)) : List (κ × β) := (k, v) :: del k L
def Nk (L : List (κ × β)) : Prop := L.Pairwise fun p q => p.1 ≠ q.1
theorem fnd_none {k : κ} : ∀ {L : List (κ × β)}, fnd k L = none ↔ ∀ p ∈ L, p.1 ≠ k
  | [] => by simp [fnd]
  | p :: r => by
    simp only [fnd]
    split
    · rename_i h; simp [h]
    · rename_i h; simp [h, fnd_none (L := r)]
theorem fnd_mem {k : κ} {v : β} : ∀ {L : List (κ × β)}, fnd k L = some v → (k, v) ∈ L
  | [], h => by simp [fnd] at h
  | p :: r, h => by
    simp only [fnd] at h
    split at h
    · rename_i e; cases h; subst e; simp
    · exact List.mem_cons_of_mem _ (fnd_mem h)
theorem fnd_of_mem {k : κ} {v : β} : ∀ {L : List (κ × β)}, Nk L → (k, v) ∈ L → fnd k L = some v
  | [], _, h => by simp at h
  | p :: r, hn, h => by
    obtain ⟨h1, h2⟩ := List.pairwise_cons.1 hn
    simp only [fnd]
    rcases List.mem_cons.1 h with e | h
    · subst e; simp
    · rw [if_neg (h1 _ h)]; exact fnd_of_mem h2 h
theorem mem_del {k : κ} {L : List (κ × β)} {p : κ × β} : p ∈ del k L ↔ p ∈ L ∧ p.1 ≠ k := by simp [del]
theorem mem_put {k : κ} {v : β} {L : List (κ × β)} {p : κ × β} : p ∈ put k v L ↔ p = (k, v) ∨ (p ∈ L ∧ p.1 ≠ k) := by simp [put, mem_del]
theorem nk_del {k : κ} {L : List (κ × β)} (h : Nk L) : Nk (del k L) := List.Pairwise.filter _ h
theorem nk_put {k : κ} {v : β} {L : List (κ × β)} (h : Nk L) : Nk (put k v L) := List.pairwise_cons.2 ⟨fun q hq => fun e => (mem_del.1 hq).2 e.symm, nk_del h⟩
theorem fnd_del (k k' : κ) : ∀ L : List (κ × β), fnd k' (del k L) = if k' = k then none else fnd k' L
  | [] => by simp [del, fnd]
  | p :: r => by
    have ih := fnd_del k k' r
    by_cases hp : p.1 = k
    · have e1 : del k (p :: r) = del k r := by simp [del, hp]
      rw [e1, ih]
      simp only [fnd]
      split
      · rfl
      · rename_i h
        rw [if_neg (fun e => h (by rw [← e, hp]))]
    · have e1 : del k (p :: r) = p :: del k r := by simp [del, hp]
      rw [e1]
      simp only [fnd]
      rw [ih]
      split
      · rename_i h
        rw [if_neg (fun e => hp (by rw [h, e]))]
      · rfl
theorem fnd_put (k k' : κ) (v : β) (L : List (κ × β)) : fnd k' (put k v L) = if k' = k then some v else fnd k' L := by
  show (if k = k' then some v else fnd k' (del k L)) = _
  rw [fnd_del]
  by_cases h : k' = k
  · subst h; simp
  · rw [if_neg (fun e => h e.symm), if_neg h, if_neg h]
theorem del_none {k : κ} {L : List (κ × β)} (h : fnd k L = none) : del k L = L := List.filter_eq_self.2 fun p hp => by simpa using fnd_none.1 h p hp
theorem length_del_le (k : κ) (L : List (κ × β)) : (del k L).length ≤ L.length := List.length_filter_le _ _
theorem length_put_le (k : κ) (v : β) (L : List (κ × β)) : (put k v L).length ≤ L.length + 1 := by have := length_del_le k L; simp [put]; omega
theorem length_put_none {k : κ} {v : β} {L : List (κ × β)} (h : fnd k L = none) : (put k v L).length = L.length + 1 := by simp [put, del_none h]
theorem length_del_some {k : κ} : ∀ {L : List (κ × β)}, Nk L → ∀ {v}, fnd k L = some v → (del k L).length + 1 = L.length
  | [], _, v, h => by simp [fnd] at h
  | p :: r, hn, v, h => by
    obtain ⟨h1, h2⟩ := List.pairwise_cons.1 hn
    simp only [fnd] at h
    by_cases hp : p.1 = k
    · have e1 : del k (p :: r) = del k r := by simp [del, hp]
      rw [e1, del_none (fnd_none.2 fun q hq e => h1 q hq (by rw [hp, e])), List.length_cons]
    · rw [if_neg hp] at h
      have e1 : del k (p :: r) = p :: del k r := by simp [del, hp]
      have := length_del_some h2 h
      rw [e1, List.length_cons, List.length_cons]; omega
theorem length_put_some {k : κ} {v u : β} {L : List (κ × β)} (hn : Nk L) (h : fnd k L = some u) : (put k v L).length = L.length := by
  have := length_del_some hn h; simp [put]; omega
end

section
variable {κ β : Type} {K : Kk κ} {V : β → Value}
def ent (K : Kk κ) (V : β → Value) (p : κ × β) : Lit × DataW Value := (K.lit p.1, .held (V p.2))
def dat (K : Kk κ) (V : β → Value) (L : List (κ × β)) : DataW Value := .map ((L.map (ent K V)).foldr DataW.insert [])
def Ko (K : Kk κ) (L : List (κ × β)) : Prop := ∀ p ∈ L, K.ok p.1
theorem Kk.Law.inj (h : K.Law) {a b : κ} (ha : K.ok a) (hb : K.ok b) (e : K.lit a = K.lit b) : a = b :=
  h.vinj _ _ (h.keyed.inj (h.key a ha) (by rw [e]; exact h.key b hb))
theorem Kk.Law.isKey (h : K.Law) {k : κ} (hk : K.ok k) : WideAt.IsKeyLit (K.lit k) := h.keyed.key (h.key k hk)
theorem ent_keys (h : K.Law) {L : List (κ × β)} (ho : Ko K L) : Keys (KeysOf Try.prog K.t) (L.map (ent K V)) := by
  intro p hp
  obtain ⟨q, hq, rfl⟩ := List.mem_map.1 hp
  exact ⟨_, h.key _ (ho q hq)⟩
theorem ent_apart (h : K.Law) {L : List (κ × β)} (ho : Ko K L) (hn : Nk L) : (L.map (ent K V)).Pairwise (fun p q => p.1 ≠ q.1) := by
  rw [List.pairwise_map]
  refine List.Pairwise.imp_of_mem ?_ hn
  intro a b ha hb hne e
  exact hne (h.inj (ho a ha) (ho b hb) e)
theorem ent_del [DecidableEq κ] (h : K.Law) {L : List (κ × β)} (ho : Ko K L) {k : κ} (hk : K.ok k) : (L.map (ent K V)).filter (ChangeMaps.notKey (K.lit k)) = (del k L).map (ent K V) := by
  rw [List.filter_map]
  congr 1
  refine List.filter_congr fun p hp => ?_
  have e := notKey_iff (H := Value) (p := ent K V p) (h.isKey hk)
  by_cases hpk : p.1 = k
  · have : ¬ (ChangeMaps.notKey (K.lit k) (ent K V p) = true) := fun hh => e.1 hh (by simp [ent, hpk])
    simp [hpk, this]
  · have : ChangeMaps.notKey (K.lit k) (ent K V p) = true := e.2 (fun hh => hpk (h.inj (ho p hp) hk hh))
    simp [hpk, this]
theorem dat_put [DecidableEq κ] (h : K.Law) {L : List (κ × β)} (ho : Ko K L) (hn : Nk L) {k : κ} (hk : K.ok k) (v : β) : (dat K V L).put (K.lit k) (.held (V v)) = dat K V (put k v L) := by
  unfold dat
  rw [DataW.put_eq, sorted_put h.keyed.one ⟨_, h.key k hk⟩ (ent_keys h ho) (ent_apart h ho hn) (E' := (put k v L).map (ent K V)) (by rw [ent_del h ho hk]; exact List.Perm.refl _)]
theorem dat_del [DecidableEq κ] (h : K.Law) {L : List (κ × β)} (ho : Ko K L) (hn : Nk L) {k : κ} (hk : K.ok k) : (dat K V L).del (K.lit k) = dat K V (del k L) := by
  unfold dat
  rw [DataW.del_eq, sorted_del h.keyed.one (ent_keys h ho) (ent_apart h ho hn) (E' := (del k L).map (ent K V)) (by rw [ent_del h ho hk])]
theorem ent_rising (h : K.Law) {L : List (κ × β)} (ho : Ko K L) (hn : Nk L) : DataW.rising ((L.map (ent K V)).foldr DataW.insert []) = true :=
  ChangeMaps.rising_of_pairwise _ (sorted_sorted h.keyed.one _ (ent_keys h ho) (ent_apart h ho hn))
theorem dat_at_some [DecidableEq κ] (h : K.Law) {L : List (κ × β)} (ho : Ko K L) (hn : Nk L) {k : κ} (hk : K.ok k) {v : β} (hf : fnd k L = some v) (z : DataW Value) : (dat K V L).atKey (K.lit k) z = .held (V v) :=
  (WideShapes.atKey_sorted (L.map (ent K V)) (ent_rising h ho hn) (K.lit k) (h.isKey hk)).2 (ent K V (k, v)) (List.mem_map.2 ⟨_, fnd_mem hf, rfl⟩) rfl z
theorem dat_at_none [DecidableEq κ] (h : K.Law) {L : List (κ × β)} (ho : Ko K L) (hn : Nk L) {k : κ} (hk : K.ok k) (hf : fnd k L = none) (z : DataW Value) : (dat K V L).atKey (K.lit k) z = z := by
  refine (WideShapes.atKey_sorted (L.map (ent K V)) (ent_rising h ho hn) (K.lit k) (h.isKey hk)).1 (fun p hp e => ?_) z
  obtain ⟨q, hq, rfl⟩ := List.mem_map.1 hp
  exact fnd_none.1 hf q hq (h.inj (ho q hq) hk e)
theorem dat_has [DecidableEq κ] (h : K.Law) {L : List (κ × β)} (ho : Ko K L) (hn : Nk L) {k : κ} (hk : K.ok k) : Maps.has (dat K V L) (K.lit k) = (fnd k L).isSome := by
  cases hf : fnd k L with
  | none => exact has_false_of_atKey (dat_at_none h ho hn hk hf)
  | some v => exact has_true_of_atKey (dat_at_some h ho hn hk hf)
theorem dat_size (L : List (κ × β)) : Maps.size (dat K V L) = L.length := by simp [dat, Maps.size, length_sorted]

/-- block b is a map of these -/
structure IsMp (K : Kk κ) (V : β → Value) (w : World) (b : Nat) (L : List (κ × β)) : Prop where
  nk : Nk L
  ko : Ko K L
  own : w.ownsMap Try.prog K.t rdV b L.length (dat K V L)
theorem isMp_of {w : World} {b n : Nat} {L : List (κ × β)} (hn : Nk L) (ho : Ko K L) (h : w.ownsMap Try.prog K.t rdV b n (dat K V L)) : IsMp K V w b L := by
  refine ⟨hn, ho, ?_⟩
  obtain ⟨es, clock, hh, F, hs, hD⟩ := h
  refine ⟨es, clock, hh, F, ?_, hD⟩
  have : Maps.size (dat K V L) = es.size := by rw [hD]; simp [Maps.size, length_sorted]
  rw [dat_size] at this
  omega
theorem IsMp.keeps {S : Nat → Prop} {w w' : World} {b : Nat} {L : List (κ × β)} (h : IsMp K V w b L) (hk : Keeps S w w') (hb : ¬ S b) : IsMp K V w' b L := by
  obtain ⟨es, clock, hh, r⟩ := h.own
  exact ⟨h.nk, h.ko, es, clock, hk.at hh hb, r⟩
theorem IsMp.keepsN {w w' : World} {b : Nat} {L : List (κ × β)} (h : IsMp K V w b L) (hk : Keeps no w w') : IsMp K V w' b L := h.keeps hk id
theorem IsMp.lt {w : World} {b : Nat} {L : List (κ × β)} (h : IsMp K V w b L) : b < w.heap.size := h.own.lt
theorem IsMp.obj {w : World} {b : Nat} {L : List (κ × β)} (h : IsMp K V w b L) : ∃ es clock, w.heap[b]? = some (.map es clock) := by
  obtain ⟨es, clock, hh, r⟩ := h.own
  exact ⟨es, clock, hh⟩
theorem IsMp.len_le {w : World} {b : Nat} {L : List (κ × β)} (h : IsMp K V w b L) : L.length ≤ maxLen := by
  obtain ⟨es, clock, hh, F, hs, hD⟩ := h.own
  have : Maps.size (dat K V L) = es.size := by rw [hD]; simp [Maps.size, length_sorted]
  rw [dat_size] at this
  have := F.size
  omega
theorem isMp_made (w : World) : IsMp K V (w.alloc (.map #[] 0)) w.heap.size ([] : List (κ × β)) := ⟨List.Pairwise.nil, fun p hp => by simp at hp, World.ownsMap_made w Try.prog K.t rdV⟩
theorem held_inj {a b : Value} (h : (DataW.held a : DataW Value) = .held b) : a = b := by injection h
theorem rdV_inv {v : Value} {d : DataW Value} {ps : List MemPlace} (h : rdV v = some (d, ps)) : d = .held v := by
  unfold rdV at h; injection h with h; injection h with h _; exact h.symm
theorem IsMp.look_some [DecidableEq κ] {w : World} {b : Nat} {L : List (κ × β)} (h : IsMp K V w b L) (hK : K.Law) {t e : TypeId} (ht : Try.prog.underlying t = some (.map K.t e)) {z : Value} (hz : (zeroValue e).run Try.prog w = .ok z w) {k : κ} (hk : K.ok k) {v : β} (hf : fnd k L = some v) :
    (Instr.lookup t (.map (some b)) (K.val k) false).run Try.prog w = .ok (V v) w := by
  obtain ⟨u, ps, hrun, hv⟩ := h.own.lookup hK.keyed ht hz (zd := .held z) (zp := []) rfl (hK.key k hk)
  rw [dat_at_some hK h.ko h.nk hk hf] at hv
  have := held_inj (rdV_inv hv)
  rw [hrun, this]
theorem IsMp.look_none [DecidableEq κ] {w : World} {b : Nat} {L : List (κ × β)} (h : IsMp K V w b L) (hK : K.Law) {t e : TypeId} (ht : Try.prog.underlying t = some (.map K.t e)) {z : Value} (hz : (zeroValue e).run Try.prog w = .ok z w) {k : κ} (hk : K.ok k) (hf : fnd k L = none) :
    (Instr.lookup t (.map (some b)) (K.val k) false).run Try.prog w = .ok z w := by
  obtain ⟨u, ps, hrun, hv⟩ := h.own.lookup hK.keyed ht hz (zd := .held z) (zp := []) rfl (hK.key k hk)
  rw [dat_at_none hK h.ko h.nk hk hf] at hv
  have := held_inj (rdV_inv hv)
  rw [hrun, this]
theorem IsMp.look2_some [DecidableEq κ] {w : World} {b : Nat} {L : List (κ × β)} (h : IsMp K V w b L) (hK : K.Law) {t e : TypeId} (ht : Try.prog.underlying t = some (.map K.t e)) {z : Value} (hz : (zeroValue e).run Try.prog w = .ok z w) {k : κ} (hk : K.ok k) {v : β} (hf : fnd k L = some v) :
    (Instr.lookup t (.map (some b)) (K.val k) true).run Try.prog w = .ok (.tuple #[V v, .bool true]) w := by
  obtain ⟨u, ps, hrun, hv⟩ := h.own.look_ok hK.keyed ht hz (zd := .held z) (zp := []) rfl (hK.key k hk)
  rw [dat_at_some hK h.ko h.nk hk hf] at hv
  have := held_inj (rdV_inv hv)
  rw [hrun, this, dat_has hK h.ko h.nk hk, hf]
  rfl
theorem IsMp.look2_none [DecidableEq κ] {w : World} {b : Nat} {L : List (κ × β)} (h : IsMp K V w b L) (hK : K.Law) {t e : TypeId} (ht : Try.prog.underlying t = some (.map K.t e)) {z : Value} (hz : (zeroValue e).run Try.prog w = .ok z w) {k : κ} (hk : K.ok k) (hf : fnd k L = none) :
    (Instr.lookup t (.map (some b)) (K.val k) true).run Try.prog w = .ok (.tuple #[z, .bool false]) w := by
  obtain ⟨u, ps, hrun, hv⟩ := h.own.look_ok hK.keyed ht hz (zd := .held z) (zp := []) rfl (hK.key k hk)
  rw [dat_at_none hK h.ko h.nk hk hf] at hv
  have := held_inj (rdV_inv hv)
  rw [hrun, this, dat_has hK h.ko h.nk hk, hf]
  rfl
theorem IsMp.len {w : World} {b : Nat} {L : List (κ × β)} (h : IsMp K V w b L) {t e : TypeId} (ht : Try.prog.underlying t = some (.map K.t e)) (ty : TypeId) : (Builtin.len_ #[t] ty #[.map (some b)]).run Try.prog w = .ok (.int .i64 ((L.length : Nat) : Int)) w := by
  rw [h.own.len ht ty, dat_size]
theorem keeps_of_grown {w w' : World} {a : Nat} (h : w.grownBy w' (some a)) : Keeps (fun i => i = a) w w' := (Keeps.refl _ w).grown h (fun k hk => .inl (by cases hk; rfl))
theorem keeps_of_grown0 {w w' : World} (h : w.grownBy w' none) : Keeps no w w' := (Keeps.refl _ w).grown h (fun k hk => by cases hk)
theorem grown_of {w w' : World} {a : Nat} (h : Keeps (fun i => i = a) w w') : w.grownBy w' (some a) := ⟨h.os, h.tape, h.output, h.size, fun i hi hne => h.block i hi (fun e => hne (by rw [e]))⟩
end

section
variable {κ β : Type} {w : World} {ops : Array Oper} {rest : List Oper} {o : Oper} {a : Act} {Q : Exit → Act → World → Prop}
/-- m[k] = v -/
theorem wpList_mput [DecidableEq κ] (hg : o.guard = none) (m x v : Operand) (t : TypeId) (hop : o.op = Op.mapUpdate t m x v) (K : Kk κ) (hK : K.Law) (V : β → Value) (e : TypeId) (ht : Try.prog.underlying t = some (.map K.t e)) (b : Nat) (L : List (κ × β)) (hm : a.eval m = .map (some b)) (h : IsMp K V w b L) (hl : L.length < maxLen)
    (k : κ) (y : β) (hx : a.eval x = K.val k) (hv : a.eval v = V y) (hk : K.ok k)
    (hQ : ∀ w', IsMp K V w' b (put k y L) → Keeps (fun i => i = b) w w' → w'.heap.size = w.heap.size → wpList Try.prog ops Q rest (a.put o.dst undef) w') : wpList Try.prog ops Q (o :: rest) a w := by
  refine wpList_mapUpdate_in w hg m x v t hop K.t e hK.keyed ht rdV b L.length _ hm h.own hl (K.val k) (V y) (K.lit k) hx hv (hK.key k hk) (.held (V y)) [] rfl ?_
  intro w' h1 ht1
  rw [dat_put hK h.ko h.nk hk] at h1
  refine hQ w' (isMp_of (nk_put h.nk) (fun p hp => ?_) h1) (keeps_of_grown ht1.grown) ?_
  · rcases mem_put.1 hp with rfl | hp
    · exact hk
    · exact h.ko p hp.1
  · obtain ⟨_, _, _, _, _, rfl⟩ := ht1; simp [ChangeMaps.setBlock]
/-- delete(m, k) -/
theorem wpList_mdel [DecidableEq κ] (hg : o.guard = none) (m x : Operand) (t : TypeId) (K : Kk κ) (hop : o.op = Op.call { callee := Callee.builtin Builtin.delete, args := #[m, x], argTypes := #[t, K.t] }) (hK : K.Law) (V : β → Value) (e : TypeId) (ht : Try.prog.underlying t = some (.map K.t e)) (b : Nat) (L : List (κ × β)) (hm : a.eval m = .map (some b)) (h : IsMp K V w b L)
    (k : κ) (hx : a.eval x = K.val k) (hk : K.ok k)
    (hQ : ∀ w', IsMp K V w' b (del k L) → Keeps (fun i => i = b) w w' → w'.heap.size = w.heap.size → wpList Try.prog ops Q rest (a.put o.dst (.tuple #[])) w') : wpList Try.prog ops Q (o :: rest) a w := by
  refine wpList_delete_own w hg m x t K.t hop e hK.keyed ht rdV b L.length _ hm h.own (K.val k) (K.lit k) hx (hK.key k hk) ?_
  intro w' h1 ht1
  rw [dat_del hK h.ko h.nk hk] at h1
  refine hQ w' (isMp_of (nk_del h.nk) (fun p hp => h.ko p (mem_del.1 hp).1) h1) (keeps_of_grown ht1.grown) ?_
  obtain ⟨_, _, _, _, _, rfl⟩ := ht1; simp [ChangeMaps.setBlock]

end
end Go.Proofs.Ytileipnoiocdlaa
/- The kinds of keys: texts, names of writes, wants. -/
namespace Go.Proofs.Ytileipnoiocdlaa
open Go.RowKit Go.Maps
set_option linter.unusedVariables false
set_option linter.unusedSimpArgs false

def KT : Kk Tx := ⟨9, .string, fun s => .string s.data.toList, fun s => s.size ≤ maxLen⟩
def KI : Kk Nat := ⟨37, fun n => .int .u64 ((n : Nat) : Int), fun n => .int .u64 ((n : Nat) : Int), fun n => n < 18446744073709551616⟩
def KW : Kk Wn := ⟨50, fun m => .agg #[.string m.1, .int .u64 ((m.2 : Nat) : Int)], fun m => .string (keyBytes [.string m.1.data.toList, .int .u64 ((m.2 : Nat) : Int)]), fun m => m.1.size ≤ maxLen ∧ m.2 < 18446744073709551616⟩
theorem lawT : KT.Law where
  keyed := string_keyed Try.underlying9
  key s h := by
    have h' : s.size ≤ maxLen := h
    show keyOf Try.prog 9 (.string s) = some (.string s.data.toList)
    simp [keyOf, Try.underlying9, mapKey, h']
  inv v l h := by
    change keyOf Try.prog 9 v = some l at h
    cases v <;> simp [keyOf, Try.underlying9, mapKey] at h
    exact ⟨_, rfl, h.2.symm, h.1⟩
  vinj a b h := by
    change Value.string a = Value.string b at h
    injection h
theorem wfI (n : Nat) : (Lit.int .u64 ((n : Nat) : Int)).wf = true ↔ n < 18446744073709551616 := by
  simp [Lit.wf, IntKind.min, IntKind.max, IntKind.signed, IntKind.bits]
  omega
theorem lawI : KI.Law where
  keyed := int_keyed Try.underlying37
  key n h := keyOf_int_mk Try.underlying37 ((wfI n).2 h)
  inv v l h := by
    obtain ⟨x, rfl, rfl, hw⟩ := keyOf_int_inv Try.underlying37 h
    have h0 : 0 ≤ x := by
      simp [Lit.wf, IntKind.min, IntKind.max, IntKind.signed, IntKind.bits] at hw
      omega
    obtain ⟨n, rfl⟩ := Int.eq_ofNat_of_zero_le h0
    exact ⟨n, rfl, rfl, (wfI n).1 hw⟩
  vinj a b h := by
    change Value.int .u64 (a : Int) = Value.int .u64 (b : Int) at h
    injection h with _ h
    omega
theorem laidOutK : laidOutB Try.prog = true := by kernel_rfl
theorem keyTypeWn : Try.prog.keyType 50 = true := by kernel_rfl
theorem cellsWn : Try.prog.cellsOf 50 = 2 := by kernel_rfl
theorem cells9 : Try.prog.cellsOf 9 = 1 := by kernel_rfl
theorem cellsI : Try.prog.cellsOf 37 = 1 := by kernel_rfl
theorem rowWn : (50 : TypeId) < Try.prog.types.size := of_decide_eq_true (by kernel_rfl)
theorem typesD : ∃ d, Try.prog.types.size = d + 1 := by
  have h : 1 ≤ Try.prog.types.size := of_decide_eq_true (by kernel_rfl)
  exact ⟨Try.prog.types.size - 1, by omega⟩
theorem wideWn : (match Try.prog.underlying 50 with | some (.array _ _) | some (.struct _) => true | _ => false) = true := by kernel_rfl
theorem kta : Try.prog.keyTypeAt 2 50 = true := by kernel_rfl
set_option maxRecDepth 20000 in
theorem keyedWn : Keyed Try.prog 50 := Keyed.of_law (deep_law_laid (P := Try.prog) laidOutK (m := 2) (k := 50) (Nat.le_of_ble_eq_true rfl) rowWn kta wideWn)
theorem lits9 (d : Nat) (v : Value) : Try.prog.keyLits (d + 1) 9 [v] = match v with | .string s => if s.size ≤ maxLen then some [.string s.data.toList] else none | _ => none := by
  unfold Program.keyLits
  rw [Try.underlying9]
  cases v <;> rfl
theorem litsI (d : Nat) (v : Value) : Try.prog.keyLits (d + 1) 37 [v] = match v with | .int q' n => if q' = IntKind.u64 ∧ (Lit.int .u64 n).wf = true then some [.int .u64 n] else none | _ => none := by
  unfold Program.keyLits
  rw [Try.underlying37]
  cases v <;> rfl
theorem litsWn (D : Nat) (a b : Value) : Try.prog.keyLits (D + 1) 50 [a, b] = (Try.prog.keyLits D 9 [a]).bind fun x => (Try.prog.keyLits D 37 [b]).map fun y => x ++ y := by
  generalize hA : Try.prog.keyLits D 9 [a] = A
  generalize hB : Try.prog.keyLits D 37 [b] = B
  unfold Program.keyLits
  rw [Try.underlying50]
  simp only [cellsWn]
  rw [if_pos (by constructor; rfl; simp)]
  simp only [List.mapM_cons, List.mapM_nil, List.drop_zero, List.drop_succ_cons, cells9, cellsI, List.take_succ_cons, List.take_zero, hA, hB]
  cases A <;> cases B <;> simp
theorem keyWn_mk (a b : Value) : keyOf Try.prog 50 (.agg #[a, b]) = (Try.prog.keyLits (Try.prog.types.size) 9 [a]).bind fun x => (Try.prog.keyLits (Try.prog.types.size) 37 [b]).map fun y => .string (keyBytes (x ++ y)) := by
  have hf : (Value.agg #[a, b]).formed Try.prog 50 = true := by simp [Value.formed, Try.underlying50, cellsWn]
  unfold keyOf
  rw [Try.underlying50]
  simp only [keyTypeWn, hf, Bool.true_and, if_true, Value.cells]
  generalize Try.prog.types.size = D
  rw [litsWn]
  cases Try.prog.keyLits D 9 [a] with
  | none => rfl
  | some x => cases Try.prog.keyLits D 37 [b] <;> rfl
set_option maxRecDepth 20000 in
theorem keyWn_shape (v : Value) (l : Lit) (h : keyOf Try.prog 50 v = some l) : ∃ a b, v = .agg #[a, b] := by
  simp only [keyOf, Try.underlying50, keyTypeWn, Bool.true_and] at h
  have hf : v.formed Try.prog 50 = true := by
    cases e : v.formed Try.prog 50 with
    | true => rfl
    | false => rw [e] at h; simp at h
  cases v with
  | agg cs =>
    obtain ⟨l⟩ := cs
    simp [Value.formed, Try.underlying50, cellsWn] at hf
    clear h
    cases l with
    | nil => simp at hf
    | cons a r => cases r with
      | nil => simp at hf
      | cons b q => cases q with
        | nil => exact ⟨a, b, rfl⟩
        | cons _ _ => simp at hf
  | _ => simp [Value.formed, Try.underlying50] at hf
theorem lawW : KW.Law where
  keyed := keyedWn
  key m h := by
    obtain ⟨d, hd⟩ := typesD
    have h1 : m.1.size ≤ maxLen := h.1
    have h2 : m.2 < 18446744073709551616 := h.2
    show keyOf Try.prog 50 (.agg #[.string m.1, .int .u64 ((m.2 : Nat) : Int)]) = _
    rw [keyWn_mk]
    simp only [hd, lits9, litsI, h1, (wfI m.2).2 h2]
    rfl
  inv v l h := by
    obtain ⟨d, hd⟩ := typesD
    change keyOf Try.prog 50 v = some l at h
    obtain ⟨a, b, rfl⟩ := keyWn_shape v l h
    rw [keyWn_mk, hd, lits9, litsI] at h
    cases a <;> simp at h
    rename_i s
    cases b <;> simp at h
    rename_i q n
    by_cases hs : s.size ≤ maxLen
    rotate_left
    · simp [hs] at h
    simp [hs] at h
    obtain ⟨⟨rfl, hw⟩, rfl⟩ := h
    have h0 : 0 ≤ n := by
      simp [Lit.wf, IntKind.min, IntKind.max, IntKind.signed, IntKind.bits] at hw
      omega
    obtain ⟨k, rfl⟩ := Int.eq_ofNat_of_zero_le h0
    exact ⟨(s, k), rfl, rfl, hs, (wfI k).1 hw⟩
  vinj a b h := by
    obtain ⟨a1, a2⟩ := a
    obtain ⟨b1, b2⟩ := b
    change Value.agg #[.string a1, .int .u64 (a2 : Int)] = Value.agg #[.string b1, .int .u64 (b2 : Int)] at h
    simp at h
    have h2 : a2 = b2 := by omega
    rw [h.1, h2]
theorem IsMp.upd {κ β : Type} [DecidableEq κ] {K : Kk κ} {V : β → Value} {w : World} {b : Nat} {L : List (κ × β)} (h : IsMp K V w b L) (hK : K.Law) {t e : TypeId} (ht : Try.prog.underlying t = some (.map K.t e)) (hl : L.length < maxLen) {k : κ} (hk : K.ok k) (y : β) :
    ∃ w1, (Instr.mapUpdate t (.map (some b)) (K.val k) (V y)).run Try.prog w = .ok () w1 ∧ IsMp K V w1 b (put k y L) ∧ Keeps (fun i => i = b) w w1 ∧ w1.heap.size = w.heap.size := by
  obtain ⟨w1, hr, h1, ht1⟩ := h.own.store hK.keyed ht hl (hK.key k hk) (d := .held (V y)) (ps := []) rfl
  rw [dat_put hK h.ko h.nk hk] at h1
  refine ⟨w1, hr, isMp_of (nk_put h.nk) (fun p hp => ?_) h1, keeps_of_grown ht1.grown, ?_⟩
  · rcases mem_put.1 hp with rfl | hp
    · exact hk
    · exact h.ko p hp.1
  · obtain ⟨_, _, _, _, _, rfl⟩ := ht1; simp [ChangeMaps.setBlock]
theorem IsMp.dele {κ β : Type} [DecidableEq κ] {K : Kk κ} {V : β → Value} {w : World} {b : Nat} {L : List (κ × β)} (h : IsMp K V w b L) (hK : K.Law) {t e : TypeId} (ht : Try.prog.underlying t = some (.map K.t e)) {k : κ} (hk : K.ok k) (ty : TypeId) :
    ∃ w1, (Builtin.delete_ #[t, K.t] ty #[.map (some b), K.val k]).run Try.prog w = .ok (.tuple #[]) w1 ∧ IsMp K V w1 b (del k L) ∧ Keeps (fun i => i = b) w w1 := by
  obtain ⟨w1, hr, h1, ht1⟩ := h.own.drop hK.keyed ht (hK.key k hk) ty
  rw [dat_del hK h.ko h.nk hk] at h1
  exact ⟨w1, hr, isMp_of (nk_del h.nk) (fun p hp => h.ko p (mem_del.1 hp).1) h1, keeps_of_grown ht1.grown⟩
/-- an index, a name as a map's value -/
def Vi : Nat → Value := fun i => .int .i64 ((i : Nat) : Int)
def Vd : Nat → Value := fun i => .int .u64 ((i : Nat) : Int)
theorem updTI {w : World} {b : Nat} {L : List (Tx × Nat)} (h : IsMp KT Vi w b L) (hl : L.length < maxLen) {k : Tx} (hk : k.size ≤ maxLen) (y : Nat) :
    ∃ w1, (Instr.mapUpdate 82 (.map (some b)) (.string k) (.int .i64 ((y : Nat) : Int))).run Try.prog w = .ok () w1 ∧ IsMp KT Vi w1 b (put k y L) ∧ Keeps (fun i => i = b) w w1 ∧ w1.heap.size = w.heap.size :=
  h.upd lawT (t := 82) (e := 3) Try.underlying82 hl (k := k) hk y
theorem updTD {w : World} {b : Nat} {L : List (Tx × Nat)} (h : IsMp KT Vd w b L) (hl : L.length < maxLen) {k : Tx} (hk : k.size ≤ maxLen) (y : Nat) :
    ∃ w1, (Instr.mapUpdate 126 (.map (some b)) (.string k) (.int .u64 ((y : Nat) : Int))).run Try.prog w = .ok () w1 ∧ IsMp KT Vd w1 b (put k y L) ∧ Keeps (fun i => i = b) w w1 ∧ w1.heap.size = w.heap.size :=
  h.upd lawT (t := 126) (e := 37) Try.underlying126 hl (k := k) hk y
theorem updII {w : World} {b : Nat} {L : List (Nat × Nat)} (h : IsMp KI Vi w b L) (hl : L.length < maxLen) {k : Nat} (hk : k < 18446744073709551616) (y : Nat) :
    ∃ w1, (Instr.mapUpdate 151 (.map (some b)) (.int .u64 ((k : Nat) : Int)) (.int .i64 ((y : Nat) : Int))).run Try.prog w = .ok () w1 ∧ IsMp KI Vi w1 b (put k y L) ∧ Keeps (fun i => i = b) w w1 ∧ w1.heap.size = w.heap.size :=
  h.upd lawI (t := 151) (e := 3) Try.underlying151 hl (k := k) hk y
theorem updWI {w : World} {b : Nat} {L : List (Wn × Nat)} (h : IsMp KW Vi w b L) (hl : L.length < maxLen) {k : Tx} {i : Nat} (hk : k.size ≤ maxLen) (hi : i < 18446744073709551616) (y : Nat) :
    ∃ w1, (Instr.mapUpdate 129 (.map (some b)) (.agg #[.string k, .int .u64 ((i : Nat) : Int)]) (.int .i64 ((y : Nat) : Int))).run Try.prog w = .ok () w1 ∧ IsMp KW Vi w1 b (put (k, i) y L) ∧ Keeps (fun i => i = b) w w1 ∧ w1.heap.size = w.heap.size :=
  h.upd lawW (t := 129) (e := 3) Try.underlying129 hl (k := (k, i)) ⟨hk, hi⟩ y
theorem remWI {w : World} {b : Nat} {L : List (Wn × Nat)} (h : IsMp KW Vi w b L) {k : Tx} {i : Nat} (hk : k.size ≤ maxLen) (hi : i < 18446744073709551616) :
    ∃ w1, (Builtin.delete_ #[129, 50] 0 #[.map (some b), .agg #[.string k, .int .u64 ((i : Nat) : Int)]]).run Try.prog w = .ok (.tuple #[]) w1 ∧ IsMp KW Vi w1 b (del (k, i) L) ∧ Keeps (fun i => i = b) w w1 :=
  h.dele lawW (t := 129) (e := 3) Try.underlying129 (k := (k, i)) ⟨hk, hi⟩ 0
theorem lookTI {w : World} {b : Nat} {L : List (Tx × Nat)} (h : IsMp KT Vi w b L) {k : Tx} (hk : k.size ≤ maxLen) {y : Nat} (hf : fnd k L = some y) : (Instr.lookup 82 (.map (some b)) (.string k) false).run Try.prog w = .ok (.int .i64 ((y : Nat) : Int)) w :=
  h.look_some lawT (t := 82) (e := 3) Try.underlying82 (z := .int .i64 0) (Try.zeroValue3 w) (k := k) hk hf
theorem lookTD {w : World} {b : Nat} {L : List (Tx × Nat)} (h : IsMp KT Vd w b L) {k : Tx} (hk : k.size ≤ maxLen) {y : Nat} (hf : fnd k L = some y) : (Instr.lookup 126 (.map (some b)) (.string k) false).run Try.prog w = .ok (.int .u64 ((y : Nat) : Int)) w :=
  h.look_some lawT (t := 126) (e := 37) Try.underlying126 (z := .int .u64 0) (Try.zeroValue37 w) (k := k) hk hf
theorem look2TD {w : World} {b : Nat} {L : List (Tx × Nat)} (h : IsMp KT Vd w b L) {k : Tx} (hk : k.size ≤ maxLen) {y : Nat} (hf : fnd k L = some y) : (Instr.lookup 126 (.map (some b)) (.string k) true).run Try.prog w = .ok (.tuple #[.int .u64 ((y : Nat) : Int), .bool true]) w :=
  h.look2_some lawT (t := 126) (e := 37) Try.underlying126 (z := .int .u64 0) (Try.zeroValue37 w) (k := k) hk hf
theorem look2TDn {w : World} {b : Nat} {L : List (Tx × Nat)} (h : IsMp KT Vd w b L) {k : Tx} (hk : k.size ≤ maxLen) (hf : fnd k L = none) : (Instr.lookup 126 (.map (some b)) (.string k) true).run Try.prog w = .ok (.tuple #[.int .u64 0, .bool false]) w :=
  h.look2_none lawT (t := 126) (e := 37) Try.underlying126 (z := .int .u64 0) (Try.zeroValue37 w) (k := k) hk hf
theorem look2II {w : World} {b : Nat} {L : List (Nat × Nat)} (h : IsMp KI Vi w b L) {k : Nat} (hk : k < 18446744073709551616) {y : Nat} (hf : fnd k L = some y) : (Instr.lookup 151 (.map (some b)) (.int .u64 ((k : Nat) : Int)) true).run Try.prog w = .ok (.tuple #[.int .i64 ((y : Nat) : Int), .bool true]) w :=
  h.look2_some lawI (t := 151) (e := 3) Try.underlying151 (z := .int .i64 0) (Try.zeroValue3 w) (k := k) hk hf
theorem look2IIn {w : World} {b : Nat} {L : List (Nat × Nat)} (h : IsMp KI Vi w b L) {k : Nat} (hk : k < 18446744073709551616) (hf : fnd k L = none) : (Instr.lookup 151 (.map (some b)) (.int .u64 ((k : Nat) : Int)) true).run Try.prog w = .ok (.tuple #[.int .i64 0, .bool false]) w :=
  h.look2_none lawI (t := 151) (e := 3) Try.underlying151 (z := .int .i64 0) (Try.zeroValue3 w) (k := k) hk hf
theorem look2WI {w : World} {b : Nat} {L : List (Wn × Nat)} (h : IsMp KW Vi w b L) {k : Tx} {i : Nat} (hk : k.size ≤ maxLen) (hi : i < 18446744073709551616) {y : Nat} (hf : fnd (k, i) L = some y) : (Instr.lookup 129 (.map (some b)) (.agg #[.string k, .int .u64 ((i : Nat) : Int)]) true).run Try.prog w = .ok (.tuple #[.int .i64 ((y : Nat) : Int), .bool true]) w :=
  h.look2_some lawW (t := 129) (e := 3) Try.underlying129 (z := .int .i64 0) (Try.zeroValue3 w) (k := (k, i)) ⟨hk, hi⟩ hf
theorem look2WIn {w : World} {b : Nat} {L : List (Wn × Nat)} (h : IsMp KW Vi w b L) {k : Tx} {i : Nat} (hk : k.size ≤ maxLen) (hi : i < 18446744073709551616) (hf : fnd (k, i) L = none) : (Instr.lookup 129 (.map (some b)) (.agg #[.string k, .int .u64 ((i : Nat) : Int)]) true).run Try.prog w = .ok (.tuple #[.int .i64 0, .bool false]) w :=
  h.look2_none lawW (t := 129) (e := 3) Try.underlying129 (z := .int .i64 0) (Try.zeroValue3 w) (k := (k, i)) ⟨hk, hi⟩ hf
theorem makeTI (w : World) (n : Int) : (Instr.makeMap 82 (some (.int .i64 n))).run Try.prog w = .ok (.map (some w.heap.size)) (w.alloc (.map #[] 0)) := by kernel_rfl
theorem makeII (w : World) (n : Int) : (Instr.makeMap 151 (some (.int .i64 n))).run Try.prog w = .ok (.map (some w.heap.size)) (w.alloc (.map #[] 0)) := by kernel_rfl
theorem makeTD (w : World) (n : Int) : (Instr.makeMap 126 (some (.int .i64 n))).run Try.prog w = .ok (.map (some w.heap.size)) (w.alloc (.map #[] 0)) := by kernel_rfl
theorem makeWI (w : World) (n : Int) : (Instr.makeMap 129 (some (.int .i64 n))).run Try.prog w = .ok (.map (some w.heap.size)) (w.alloc (.map #[] 0)) := by kernel_rfl
end Go.Proofs.Ytileipnoiocdlaa
