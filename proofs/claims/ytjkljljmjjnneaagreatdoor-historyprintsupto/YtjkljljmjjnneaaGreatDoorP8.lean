/- Parse. -/
import Derived.Test.YtjkljljmjjnneaaGreatDoorP7
namespace Go.Proofs.YtjkljljmjjnneaaGreatDoor
open Go.RowKit Go.Sort Orl
set_option linter.unusedVariables false
set_option linter.unusedSimpArgs false

/-- lines as they are read: the events, or the number of the line at fault -/
def parseF : Nat → List UInt8 → Nat → Option (List Eb) × Nat
  | 0, _, _ => (some [], 0)
  | f + 1, l, n => if l = [] then (some [], 0) else if (cutL 10 l).2.2 = false then (none, n + 1)
    else match eventR (cutL 10 l).1 with
      | none => (none, n + 1)
      | some x => match parseF f (cutL 10 l).2.1 (n + 1) with
        | (some xs, k) => (some (x :: xs), k)
        | (none, k) => (none, k)
def parseR (l : List UInt8) : Option (List Eb) × Nat := parseF l.length l 0
/-- some events, and what the rest is read to -/
def comb (es : List Eb) (p : Option (List Eb) × Nat) : Option (List Eb) × Nat := match p with
  | (some xs, k) => (some (es ++ xs), k)
  | (none, k) => (none, k)
theorem comb_nil (p : Option (List Eb) × Nat) : comb [] p = p := by
  rcases p with ⟨_ | xs, k⟩ <;> rfl
theorem comb_cons (es : List Eb) (x : Eb) (p : Option (List Eb) × Nat) : comb es (match p with | (some xs, k) => (some (x :: xs), k) | (none, k) => (none, k)) = comb (es ++ [x]) p := by
  rcases p with ⟨_ | xs, k⟩
  · rfl
  · show (some (es ++ x :: xs), k) = (some ((es ++ [x]) ++ xs), k)
    rw [List.append_assoc]; rfl
theorem cutL_len (c : UInt8) : ∀ l : List UInt8, (cutL c l).1.length ≤ l.length ∧ (cutL c l).2.1.length ≤ l.length ∧ (l ≠ [] → (cutL c l).2.1.length < l.length)
  | [] => ⟨Nat.le_refl _, Nat.le_refl _, fun h => (h rfl).elim⟩
  | b :: l => by
    have ih := cutL_len c l
    rw [cutL]
    by_cases h : b = c
    · rw [if_pos h]
      exact ⟨Nat.zero_le _, by simp, fun _ => by simp⟩
    · rw [if_neg h]
      refine ⟨by simp; exact ih.1, by simp; omega, fun _ => by simp; omega⟩
def eb0 : Eb := ⟨0, 0, 0, 0, [], [], 0, 0, []⟩
/-- events in memory, all of whose lists are new -/
structure Ebs (N : Nat) (w : World) (rs : List RE) (es : List Eb) : Prop where
  len : rs.length = es.length
  each : ∀ j, j < es.length → EbOf N w (rs.getD j re0) (es.getD j eb0)
theorem Ebs.keepsN {N : Nat} {w w' : World} {rs : List RE} {es : List Eb} (h : Ebs N w rs es) (k : Keeps no w w') : Ebs N w' rs es := ⟨h.len, fun j hj => (h.each j hj).keepsN k⟩
theorem Ebs.keepsT {N : Nat} {S : Nat → Prop} {w w' : World} {rs : List RE} {es : List Eb} (h : Ebs N w rs es) (k : Keeps S w w') (hS : ∀ b, S b → ∃ cur fz, w.heap[b]? = some (.cells cur 36 fz)) : Ebs N w' rs es := ⟨h.len, fun j hj => (h.each j hj).keepsT k hS⟩
theorem Ebs.nil (N : Nat) (w : World) : Ebs N w [] [] := ⟨rfl, fun j hj => by simp at hj⟩
theorem Ebs.push {N : Nat} {w : World} {rs : List RE} {es : List Eb} (h : Ebs N w rs es) {r : RE} {x : Eb} (hx : EbOf N w r x) : Ebs N w (rs ++ [r]) (es ++ [x]) := by
  refine ⟨by simp [h.len], fun j hj => ?_⟩
  rw [List.length_append, List.length_singleton] at hj
  rw [getD_app1, getD_app1, h.len]
  by_cases e : j < es.length
  · rw [if_pos e, if_pos e]; exact h.each j e
  · rw [if_neg e, if_neg e, if_pos (by omega), if_pos (by omega)]; exact hx
theorem Ebs.ap {N : Nat} {w w' : World} {o o' : Option Addr} {c : Nat} {xs : List RE} {rs : List RE} {es : List Eb} (h : Ebs N w rs es) (ho : Own EE w o c xs) (ha : Ap w o o' w') : Ebs N w' rs es := by
  rcases ha with ⟨_, k⟩ | ⟨_, k⟩
  · exact h.keepsT k (fun b hb => by obtain ⟨cur, hc⟩ := ho.tag b hb; exact ⟨cur, _, hc⟩)
  · exact h.keepsN k
/-- what Parse tells -/
def PaTo (w : World) (p : Option (List Eb) × Nat) (e : Ending) (w' : World) : Prop := Keeps no w w' ∧ match p with
  | (none, k) => e = .returned (.tuple #[.slice none 0 0, .int .i64 (k : Nat), .int .i64 2])
  | (some es, _) => ∃ (o : Option Addr) (n c : Nat) (rs : List RE), e = .returned (.tuple #[.slice o n c, .int .i64 0, .int .i64 0]) ∧ n = es.length ∧ Own EE w' o c rs ∧ New w o ∧ Ebs w.heap.size w' rs es
theorem parse_fst_none {l : List UInt8} {n k : Nat} : ∀ f, parseF f l n = (some [], k) → k = 0 := by
  intro f h
  cases f with
  | zero => cases h; rfl
  | succ f =>
    rw [parseF] at h
    split at h
    · cases h; rfl
    · split at h
      · cases h
      · split at h
        · cases h
        · split at h <;> cases h
set_option maxRecDepth 10000 in
set_option maxHeartbeats 8000000 in
theorem parse_any (w : World) (hv : Vs w) (s : ByteArray) (hs : s.size ≤ 4294967000) :
    Calls Tryz.prog 13 #[.string s] w (PaTo w (parseR s.data.toList)) := by
  have HP : Hid (Vs w ∧ s.size ≤ 4294967000) := ⟨hv, hs⟩
  clear hv hs
  go_enter Tryz.func13, Tryz.ntmps13
  go_wp2_with fail
  go_loopw [0, 5] (fun s0 s5 wr => ∃ (t : ByteArray) (o : Option Addr) (c : Nat) (n : Nat) (rs : List RE) (es : List Eb) (f : Nat), s0 = .string t ∧ s5 = .slice o n c ∧ Hid (Keeps no w wr ∧ n = es.length ∧ Own EE wr o c rs ∧ New w o ∧ Ebs w.heap.size wr rs es ∧ t.data.toList.length ≤ f ∧ n + t.size ≤ s.size ∧ parseR s.data.toList = comb es (parseF f t.data.toList n))) (fun s0 _ _ => match s0 with | .string t => t.size | _ => 0)
  case atStart => exact ⟨s, none, 0, 0, [], [], s.data.toList.length, rfl, rfl, Keeps.refl _ _, rfl, own_nil _, new_none _, Ebs.nil _ _, Nat.le_refl _, by omega, (comb_nil _).symm⟩
  case round =>
    rename World => wr
    obtain ⟨t, o, c, n, rs, es, f, rfl, rfl, HO⟩ := hrel
    have hnb : (n : Int) ≤ 4294967000 := by have := HO.out.2.2.2.2.2.2.1; have := HP.out.2; omega
    by_cases ht0 : t.size = 0
    · have hl0 : t.data.toList = [] := List.length_eq_zero_iff.1 (by rw [data_len]; exact ht0)
      have htb : (ByteArray.toList t == ([] : List UInt8)) = true := by rw [Lib.toList_data, hl0]; rfl
      have HE : Hid (parseR s.data.toList = (some (es ++ []), 0)) := by
        show _ = _
        rw [HO.out.2.2.2.2.2.2.2, hl0]
        cases f <;> rfl
      clear hl0 ht0
      go_wp2_with fail
      go_ret3
      refine ⟨HO.out.1, ?_⟩
      rw [HE.out]
      exact ⟨o, n, c, rs, rfl, by rw [List.append_nil]; exact HO.out.2.1, HO.out.2.2.1, HO.out.2.2.2.1, by rw [List.append_nil]; exact HO.out.2.2.2.2.1⟩
    · have hl0 : t.data.toList ≠ [] := fun e => ht0 (by rw [← data_len, e]; rfl)
      have htb : (ByteArray.toList t == ([] : List UInt8)) = false := by rw [beq_eq_false_iff_ne, Lib.toList_data]; exact hl0
      have htz : t.size ≤ 4294967000 := by have := HO.out.2.2.2.2.2.2.1; have := HP.out.2; omega
      have HC := cut_any wr t 10 (by omega)
      have hcl := cutL_len 10 t.data.toList
      obtain ⟨f, rfl⟩ : ∃ f', f = f' + 1 := ⟨f - 1, by have := HO.out.2.2.2.2.2.1; rw [data_len] at this; omega⟩
      have hpf : parseF (f + 1) t.data.toList n = if (cutL 10 t.data.toList).2.2 = false then (none, n + 1)
          else match eventR (cutL 10 t.data.toList).1 with
            | none => (none, n + 1)
            | some x => match parseF f (cutL 10 t.data.toList).2.1 (n + 1) with
              | (some xs, k) => (some (x :: xs), k)
              | (none, k) => (none, k) := by rw [parseF, if_neg hl0]
      have hR := hcl.2.2 hl0
      have hA := hcl.1
      rw [data_len] at hR hA
      have htf := HO.out.2.2.2.2.2.1
      rw [data_len] at htf
      generalize (cutL 10 t.data.toList).1 = A at HC hpf hA
      generalize (cutL 10 t.data.toList).2.1 = R at HC hpf hR
      generalize (cutL 10 t.data.toList).2.2 = b at HC hpf
      have HPF : Hid (parseR s.data.toList = comb es (if b = false then (none, n + 1)
          else match eventR A with
            | none => (none, n + 1)
            | some x => match parseF f R (n + 1) with
              | (some xs, k) => (some (x :: xs), k)
              | (none, k) => (none, k))) := by show _ = _; rw [HO.out.2.2.2.2.2.2.2, hpf]
      have HZ : Hid (A.length ≤ 4294967000 ∧ R.length < t.size ∧ R.length ≤ f ∧ n + t.size ≤ s.size) := ⟨by omega, hR, by omega, HO.out.2.2.2.2.2.2.1⟩
      have HO2 : Hid (Keeps no w wr ∧ n = es.length ∧ Own EE wr o c rs ∧ New w o ∧ Ebs w.heap.size wr rs es) := ⟨HO.out.1, HO.out.2.1, HO.out.2.2.1, HO.out.2.2.2.1, HO.out.2.2.2.2.1⟩
      clear hcl hpf hR hA htf HO hl0 ht0 htz
      go_wp2_with fail
      refine HC.mono ?_
      rintro e w2 ⟨rfl, hk2⟩
      have HK2 : Hid (Keeps no wr w2) := hk2
      clear hk2 HC
      have HRE : Calls Tryz.prog 27 #[.string ⟨A.toArray⟩] w2 (EbTo w2 (eventR A)) := readEvent_any w2 (HP.out.1.keepsN (HO2.out.1.trans HK2.out)) ⟨A.toArray⟩ HZ.out.1
      go_wp2_with fail
      refine HRE.mono ?_
      rintro e w3 ⟨r, he, hk3, hy⟩
      have he2 : e = .returned (.tuple #[.agg #[.int .i64 r.kind, .int .i64 r.client, .int .i64 r.txn, .int .u64 (r.id : Nat), .slice r.po r.pn r.pc, .slice r.ko r.kn r.kc, .int .i64 r.atxn, .int .i64 r.ares, .int .u64 (r.aid : Nat), .slice r.vo r.vn r.vc], .bool (eventR A).isSome]) := he
      subst he2
      have HK3 : Hid (Keeps no wr w3 ∧ ∀ y, eventR A = some y → EbOf w2.heap.size w3 r y) := ⟨HK2.out.trans hk3, hy⟩
      have HLE : Hid (w.heap.size ≤ w2.heap.size) := by show _ ≤ _; exact (HO2.out.1.trans HK2.out).size
      clear he hk3 hy HRE HK2
      go_upto_region 5 with fail
      have HB : Hid (∀ W, W = w3.alloc (.cells #[.int .i64 r.kind, .int .i64 r.client, .int .i64 r.txn, .int .u64 (r.id : Nat), .slice r.po r.pn r.pc, .slice r.ko r.kn r.kc, .int .i64 r.atxn, .int .i64 r.ares, .int .u64 (r.aid : Nat), .slice r.vo r.vn r.vc] 36) → Keeps no w3 W ∧ W.heap[w3.heap.size]? = some (.cells #[.int .i64 r.kind, .int .i64 r.client, .int .i64 r.txn, .int .u64 (r.id : Nat), .slice r.po r.pn r.pc, .slice r.ko r.kn r.kc, .int .i64 r.atxn, .int .i64 r.ares, .int .u64 (r.aid : Nat), .slice r.vo r.vn r.vc] 36 (0, 0))) := by
        rintro W rfl
        exact ⟨(Keeps.refl _ _).alloc _, blk_new _ _⟩
      have hb4 := HB.out _ rfl
      clear HB
      generalize w3.alloc (.cells #[.int .i64 r.kind, .int .i64 r.client, .int .i64 r.txn, .int .u64 (r.id : Nat), .slice r.po r.pn r.pc, .slice r.ko r.kn r.kc, .int .i64 r.atxn, .int .i64 r.ares, .int .u64 (r.aid : Nat), .slice r.vo r.vn r.vc] 36) = w4 at hb4 ⊢
      generalize w3.heap.size = B4 at hb4 ⊢
      have H4 : Hid (Keeps no w3 w4 ∧ w4.heap[B4]? = some (.cells #[.int .i64 r.kind, .int .i64 r.client, .int .i64 r.txn, .int .u64 (r.id : Nat), .slice r.po r.pn r.pc, .slice r.ko r.kn r.kc, .int .i64 r.atxn, .int .i64 r.ares, .int .u64 (r.aid : Nat), .slice r.vo r.vn r.vc] 36 (0, 0))) := hb4
      clear hb4
      cases b with
      | false =>
        have HE : Hid (parseR s.data.toList = (none, n + 1)) := by show _ = _; rw [HPF.out, if_pos rfl]; rfl
        clear HPF
        go_wp2_with fail
        go_ret3
        refine ⟨(HO2.out.1.trans HK3.out.1).trans H4.out.1, ?_⟩
        rw [HE.out]
        rfl
      | true =>
        cases hev : eventR A with
        | none =>
          have HE : Hid (parseR s.data.toList = (none, n + 1)) := by show _ = _; rw [HPF.out, if_neg (by decide), hev]; rfl
          clear HPF
          go_wp2_with fail
          go_ret3
          refine ⟨(HO2.out.1.trans HK3.out.1).trans H4.out.1, ?_⟩
          rw [HE.out]
          rfl
        | some x =>
          have HE : Hid (parseR s.data.toList = comb (es ++ [x]) (parseF f R (n + 1))) := by show _ = _; rw [HPF.out, if_neg (by decide), hev]; exact comb_cons es x _
          clear HPF
          have HLT : Hid (Keeps no wr (w4.alloc (.cells #[.int .i64 r.kind, .int .i64 r.client, .int .i64 r.txn, .int .u64 (r.id : Nat), .slice r.po r.pn r.pc, .slice r.ko r.kn r.kc, .int .i64 r.atxn, .int .i64 r.ares, .int .u64 (r.aid : Nat), .slice r.vo r.vn r.vc] 36)) ∧ Own EE (w4.alloc (.cells #[.int .i64 r.kind, .int .i64 r.client, .int .i64 r.txn, .int .u64 (r.id : Nat), .slice r.po r.pn r.pc, .slice r.ko r.kn r.kc, .int .i64 r.atxn, .int .i64 r.ares, .int .u64 (r.aid : Nat), .slice r.vo r.vn r.vc] 36)) o c rs ∧ Row EE (w4.alloc (.cells #[.int .i64 r.kind, .int .i64 r.client, .int .i64 r.txn, .int .u64 (r.id : Nat), .slice r.po r.pn r.pc, .slice r.ko r.kn r.kc, .int .i64 r.atxn, .int .i64 r.ares, .int .u64 (r.aid : Nat), .slice r.vo r.vn r.vc] 36)) (some ⟨w4.heap.size, 0, none⟩) [r] ∧ Ebs w.heap.size (w4.alloc (.cells #[.int .i64 r.kind, .int .i64 r.client, .int .i64 r.txn, .int .u64 (r.id : Nat), .slice r.po r.pn r.pc, .slice r.ko r.kn r.kc, .int .i64 r.atxn, .int .i64 r.ares, .int .u64 (r.aid : Nat), .slice r.vo r.vn r.vc] 36)) (rs ++ [r]) (es ++ [x]) ∧ n = rs.length) := by
            have k : Keeps no w3 (w4.alloc (.cells #[.int .i64 r.kind, .int .i64 r.client, .int .i64 r.txn, .int .u64 (r.id : Nat), .slice r.po r.pn r.pc, .slice r.ko r.kn r.kc, .int .i64 r.atxn, .int .i64 r.ares, .int .u64 (r.aid : Nat), .slice r.vo r.vn r.vc] 36)) := H4.out.1.trans ((Keeps.refl _ _).alloc _)
            have k2 := HK3.out.1.trans k
            exact ⟨k2, HO2.out.2.2.1.keepsN k2, (lit_one (E := EE) _ r #[.int .i64 r.kind, .int .i64 r.client, .int .i64 r.txn, .int .u64 (r.id : Nat), .slice r.po r.pn r.pc, .slice r.ko r.kn r.kc, .int .i64 r.atxn, .int .i64 r.ares, .int .u64 (r.aid : Nat), .slice r.vo r.vn r.vc] rfl).row, (HO2.out.2.2.2.2.keepsN k2).push (((HK3.out.2 x hev).le HLE.out).keepsN k), by rw [HO2.out.2.1]; exact HO2.out.2.2.2.2.len.symm⟩
          have z0 := cell_of_blk H4.out.2 0
          have z1 := cell_of_blk H4.out.2 1
          have z2 := cell_of_blk H4.out.2 2
          have z3 := cell_of_blk H4.out.2 3
          have z4 := cell_of_blk H4.out.2 4
          have z5 := cell_of_blk H4.out.2 5
          have z6 := cell_of_blk H4.out.2 6
          have z7 := cell_of_blk H4.out.2 7
          have z8 := cell_of_blk H4.out.2 8
          have z9 := cell_of_blk H4.out.2 9
          simp only [List.getElem?_toArray, List.getElem?_cons_succ, List.getElem?_cons_zero] at z0 z1 z2 z3 z4 z5 z6 z7 z8 z9
          clear hev
          go_wp2_with (at_builtin; go_loud (refine wpList_app okE rfl _ _ rfl _ _ _ rs rfl HLT.out.2.2.2.2 HLT.out.2.1 _ _ _ [r] rfl rfl (fun h => by cases h) HLT.out.2.2.1 (by have := HLT.out.2.2.2.2; simp [EE]; omega) (by have := HLT.out.2.2.2.2; simp; omega) ?_); intro o6 c6 w6 ho6 hap6; have HN6 : Hid (Own EE w6 o6 c6 (rs ++ [r]) ∧ (New w o6 ∧ Keeps no w w6) ∧ Ebs w.heap.size w6 (rs ++ [r]) (es ++ [x])) := ⟨ho6, hap6.new (w0 := w) HO2.out.2.2.2.1 (HO2.out.1.trans HLT.out.1), HLT.out.2.2.2.1.ap HLT.out.2.1 hap6⟩; clear ho6 hap6)
          go_roundw
          case rel => exact ⟨⟨R.toArray⟩, o6, c6, n + 1, rs ++ [r], es ++ [x], f, rfl, by go_num, HN6.out.2.1.2, by rw [List.length_append, List.length_singleton, ← HO2.out.2.1], HN6.out.1, HN6.out.2.1.1, HN6.out.2.2, HZ.out.2.2.1, by have := HZ.out.2; show n + 1 + R.length ≤ _; omega, HE.out⟩
          case measure => exact HZ.out.2.1
end Go.Proofs.YtjkljljmjjnneaaGreatDoor
