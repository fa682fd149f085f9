import Derived.Test.YtclheacjhkoocaaK1
namespace Go.Proofs.Ytclheacjhkoocaa
open Go.RowKit
open Pk
set_option linter.unusedVariables false
set_option linter.unusedSimpArgs false

def mark (i : Nat) : Nat := 1 + i % 250
theorem mark_lt (i : Nat) : mark i < 256 := by unfold mark; omega
theorem rep_lt (n i : Nat) : ∀ c ∈ List.replicate n (mark i), c < 256 := by
  intro c hc
  rw [List.eq_of_mem_replicate hc]
  exact mark_lt i
theorem RowX.at {w : World} {a : Option Addr} {xs : List SlV} (h : RowX w a xs) {i : Nat} (hi : i < xs.length) : ∃ b off, a = some ⟨b, off, none⟩ ∧ w.cell? ⟨b, off + i, none⟩ = some (xs.getD i slv0).val := by
  rcases h with h | ⟨b, off, rfl, hc⟩
  · rw [h] at hi; simp at hi
  · exact ⟨b, off, rfl, hc i hi⟩
theorem rep_step (bs : List Nat) (k m : Nat) (h : k < bs.length) : (List.replicate k m ++ bs.drop k).set k m = List.replicate (k + 1) m ++ bs.drop (k + 1) := by
  rw [List.set_append_right _ _ (by simp)]
  simp only [List.length_replicate, Nat.sub_self]
  rw [List.drop_eq_getElem_cons h, List.set_cons_zero, List.replicate_succ', List.append_assoc]
  rfl

theorem getD_last (zs : List SlV) (z : SlV) (j : Nat) (h : zs.length = j) : (zs ++ [z]).getD j slv0 = z := by
  subst h
  simp [List.getD_eq_getElem?_getD]
theorem getD_front (zs : List SlV) (z : SlV) (j : Nat) (h : j < zs.length) : (zs ++ [z]).getD j slv0 = zs.getD j slv0 := by
  rw [List.getD_eq_getElem?_getD, List.getD_eq_getElem?_getD, List.getElem?_append_left h]

/-- what 'marked' asks of the lists that it is handed -/
structure Marks (w : World) (ol : Option Addr) (xs : List SlV) (ow : Option Addr) (ys : List SlV) (own : Nat → Nat) : Prop where
  l : RowX w ol xs
  r : RowX w ow ys
  n : xs.length ≤ 1000
  len : ys.length = xs.length
  x : ∀ i, i < xs.length → Owns w (xs.getD i slv0).o (xs.getD i slv0).c (xs.getD i slv0).bs ∧ (∀ c ∈ (xs.getD i slv0).bs, c < 256) ∧ (xs.getD i slv0).bs.length ≤ 2147483648
  y : ∀ i, i < xs.length → (ys.getD i slv0).bs = (xs.getD i slv0).bs ∧ Row w (ys.getD i slv0).o (xs.getD i slv0).bs
  tx : ∀ i, i < xs.length → ∀ k, inO (xs.getD i slv0).o k → own k = 10 + i
  tl : ∀ k, inO ol k → own k = 9 ∧ k < w.heap.size
def Blocks (xs : List SlV) : Nat → Prop := fun k => ∃ i, i < xs.length ∧ inO (xs.getD i slv0).o k

set_option maxRecDepth 100000 in
set_option maxHeartbeats 0 in
theorem marked_any (w : World) (ol : Option Addr) (cl : Nat) (xs : List SlV) (ow : Option Addr) (cw : Nat) (ys : List SlV) (own : Nat → Nat) (h : Marks w ol xs ow ys own) :
    Calls Try.prog 15 #[.slice ol xs.length cl, .slice ow ys.length cw] w fun e w' => e = .returned (.bool true) ∧ Keeps (Blocks xs) w w' := by
  obtain ⟨N, hN⟩ : ∃ N, N = xs.length := ⟨_, rfl⟩
  have hlen := h.len
  rw [hlen, ← hN]
  have HN : Hid (N = xs.length) := hN
  have hN5 : N ≤ 1000 := by have := h.n; omega
  have HLEN : Hid (ys.length = xs.length) := hlen
  clear hN hlen
  go_enter Try.func15, Try.ntmps15
  go_wp2_with fail
  go_loopw [5] (fun i wr => ∃ k : Nat, k ≤ N ∧ i = .int .i64 k ∧ Keeps (fun _ => False) w wr) (fun i _ => N - (intOf i).toNat)
  case atStart => exact ⟨0, by omega, rfl, Keeps.refl _ _⟩
  case round =>
    obtain ⟨k, hk, rfl, hK⟩ := hrel
    by_cases hlt : k < N
    · have hkx : k < xs.length := by have := HN.out; omega
      obtain ⟨b1, f1, rfl, e1⟩ := (h.l.keeps hK (fun _ _ h => h)).at hkx
      obtain ⟨b2, f2, rfl, e2⟩ := (h.r.keeps hK (fun _ _ h => h)).at (i := k) (by have := HLEN.out; omega)
      have hx := h.x k hkx
      have hy := h.y k hkx
      have hrx := (hx.1.row hx.2.1 (by omega)).keeps hK (fun _ _ h => h)
      have hry := hy.2.keeps hK (fun _ _ h => h)
      obtain ⟨X, hX⟩ : ∃ X, X = xs.getD k slv0 := ⟨_, rfl⟩
      obtain ⟨Y, hY⟩ : ∃ Y, Y = ys.getD k slv0 := ⟨_, rfl⟩
      rw [← hX] at e1 hx hy hrx hry
      rw [← hY] at e2 hy hry
      have g1 : wr.cell? ⟨b1, f1 + k, none⟩ = some (.slice X.o X.bs.length X.c) := e1
      have g2 : wr.cell? ⟨b2, f2 + k, none⟩ = some (.slice Y.o X.bs.length Y.c) := by rw [← hy.1]; exact e2
      have HRX : Hid (Row wr X.o X.bs) := hrx
      have HRY : Hid (Row wr Y.o X.bs) := hry
      clear e1 e2 hx hy hrx hry hX hY
      go_wp2_with fail
      go_quiet ((go_at_call 16; refine Calls.quiet_of_same (same_eq _ X.o _ X.c Y.o _ Y.c X.bs rfl rfl ?_ ?_); exact HRX.out.keeps (keeps_drewN (fun _ => False) wr _) (fun _ _ h => h); exact HRY.out.keeps (keeps_drewN (fun _ => False) wr _) (fun _ _ h => h)))
      go_wp2_with fail
      go_roundw
      case rel => exact ⟨k + 1, by omega, by go_num, hK.trans (keeps_drewN _ _ _)⟩
      case measure => simp [intOf]; omega
    · go_wp2_with fail
      clear hlt hk
      go_loopw [6] (fun i wq => ∃ q : Nat, q ≤ N ∧ i = .int .i64 q ∧ Keeps (Blocks xs) w wq ∧ (∀ j, j < xs.length → Owns wq (xs.getD j slv0).o (xs.getD j slv0).c (if j < q then List.replicate (xs.getD j slv0).bs.length (mark j) else (xs.getD j slv0).bs))) (fun i _ => N - (intOf i).toNat)
      case atStart =>
        refine ⟨0, by omega, rfl, hK.mono (fun _ h => h.elim), fun j hj => ?_⟩
        rw [if_neg (by omega)]
        exact (h.x j hj).1.keeps hK (fun _ _ h => h)
      case round =>
        rename World => wq
        obtain ⟨q, hq, rfl, hKq, hFq⟩ := hrel
        clear hK
        by_cases hlt : q < N
        · have hqx : q < xs.length := by have := HN.out; omega
          have hx := h.x q hqx
          have htq := h.tx q hqx
          obtain ⟨X, hX⟩ : ∃ X, X = xs.getD q slv0 := ⟨_, rfl⟩
          have HX : Hid (X = xs.getD q slv0) := hX
          have hFX := hFq q hqx
          rw [if_neg (by omega)] at hFX
          obtain ⟨b1, f1, rfl, _⟩ := h.l.at hqx
          have hb1 : ¬ Blocks xs b1 := by
            rintro ⟨i, hi, hin⟩
            have := h.tx i hi b1 hin
            have := (h.tl b1 ⟨_, rfl, rfl⟩).1
            omega
          have HB1 : Hid (¬ Blocks xs b1) := hb1
          rw [← hX] at hx htq hFX
          have hnX := hx.2.2
          clear hX hb1
          obtain ⟨nX, hnn⟩ : ∃ nX, nX = X.bs.length := ⟨_, rfl⟩
          rw [← hnn] at hnX
          have HNN : Hid (nX = X.bs.length) := hnn
          clear hnn
          have HCELL : Hid (w.cell? ⟨b1, f1 + q, none⟩ = some (.slice X.o nX X.c)) := by
            obtain ⟨b1', f1', e, hc⟩ := h.l.at hqx
            cases e
            rw [← HX.out] at hc
            show _ = _
            rw [HNN.out]
            exact hc
          have HREST : Hid (∀ j, j < xs.length → j ≠ q → Owns wq (xs.getD j slv0).o (xs.getD j slv0).c (if j < q then List.replicate (xs.getD j slv0).bs.length (mark j) else (xs.getD j slv0).bs)) := fun j hj _ => hFq j hj
          have HFX : Hid (Owns wq X.o X.c X.bs) := hFX
          have HKQ : Hid (Keeps (Blocks xs) w wq) := hKq
          clear hFX hFq hKq
          go_wp2_with fail
          go_loopw [7] (fun i wp => ∃ k : Nat, k ≤ nX ∧ i = .int .i64 k ∧ Keeps (inO X.o) wq wp ∧ Owns wp X.o X.c (List.replicate k (mark q) ++ X.bs.drop k)) (fun i _ => nX - (intOf i).toNat)
          case atStart => exact ⟨0, by omega, rfl, Keeps.refl _ _, by simpa using HFX.out⟩
          case round =>
            rename World => wp
            obtain ⟨k, hk, rfl, hKp, hOp⟩ := hrel
            have hKw : Keeps (Blocks xs) w wp := HKQ.out.trans (hKp.mono (fun x hx => ⟨q, hqx, by rw [← HX.out]; exact hx⟩))
            have g1 := hKw.cell HCELL.out HB1.out
            by_cases hlk : k < nX
            · have hlen : (List.replicate k (mark q) ++ X.bs.drop k).length = X.bs.length := by simp; have := HNN.out; omega
              obtain ⟨g, hg, hc, hf, hO2, hK2⟩ := hOp.store k (by rw [hlen]; have := HNN.out; omega) (mark q)
              rw [rep_step X.bs k (mark q) (by have := HNN.out; omega)] at hO2
              rw [hg] at g1
              have em : ((mark q : Nat) : Int) = 1 + (q : Int) % 250 := by unfold mark; omega
              rw [em] at hO2 hK2
              have HO2 : Hid (Owns (wp.setCell ⟨g, k, none⟩ (.int .u8 (1 + (q : Int) % 250))) X.o X.c (List.replicate (k + 1) (mark q) ++ X.bs.drop (k + 1))) := hO2
              have HK2 : Hid (Keeps (inO X.o) wp (wp.setCell ⟨g, k, none⟩ (.int .u8 (1 + (q : Int) % 250)))) := hK2
              clear hO2 hK2 em hlen hg
              go_wp2_with fail
              go_roundw
              case rel => exact ⟨k + 1, by omega, by go_num, hKp.then HK2.out (fun _ h => .inl h), HO2.out⟩
              case measure => simp [intOf]; omega
            · have hkn : nX = k := by omega
              go_wp2_with fail
              go_roundw
              case rel =>
                refine ⟨q + 1, by omega, by go_num, hKw, fun j hj => ?_⟩
                by_cases hjq : j = q
                · subst hjq
                  rw [if_pos (by omega), ← HX.out, ← HNN.out]
                  rw [← hkn, HNN.out, List.drop_length, List.append_nil] at hOp
                  rw [HNN.out]
                  exact hOp
                · have := (HREST.out j hj hjq).keeps hKp (fun x hx hx' => by
                    have e1 := h.tx j hj x hx
                    have e2 := htq x hx'
                    omega)
                  have e : (if j < q + 1 then List.replicate (xs.getD j slv0).bs.length (mark j) else (xs.getD j slv0).bs) = (if j < q then List.replicate (xs.getD j slv0).bs.length (mark j) else (xs.getD j slv0).bs) := by
                    by_cases hjl : j < q
                    · rw [if_pos hjl, if_pos (by omega)]
                    · rw [if_neg hjl, if_neg (by omega)]
                  rw [e]
                  exact this
              case measure => simp [intOf]; omega
        · have hFN : ∀ j, j < xs.length → Owns wq (xs.getD j slv0).o (xs.getD j slv0).c (List.replicate (xs.getD j slv0).bs.length (mark j)) := by
            intro j hj
            have := hFq j hj
            rw [if_pos (by have := HN.out; omega)] at this
            exact this
          have HFN : Hid (∀ j, j < xs.length → Owns wq (xs.getD j slv0).o (xs.getD j slv0).c (List.replicate (xs.getD j slv0).bs.length (mark j))) := hFN
          have HKQ : Hid (Keeps (Blocks xs) w wq) := hKq
          clear hFq hFN hKq
          go_wp2_with fail
          clear hlt hq
          have HXL : Hid (∀ j, j < xs.length → ∀ k, inO (xs.getD j slv0).o k → k < w.heap.size) := fun j hj k hk => (h.x j hj).1.lt k hk
          go_loopw [8, 9] (fun l i wr => ∃ (q : Nat) (oL : Option Addr) (cL : Nat) (zs : List SlV) (own2 : Nat → Nat), q ≤ N ∧ i = .int .i64 q ∧ l = .slice oL q cL ∧ zs.length = q ∧ OwnsX wr oL cL zs ∧ Keeps (Blocks xs) w wr ∧
            (∀ j, j < xs.length → Row wr (xs.getD j slv0).o (List.replicate (xs.getD j slv0).bs.length (mark j))) ∧
            (∀ j, q ≤ j → j < xs.length → Owns wr (xs.getD j slv0).o (xs.getD j slv0).c (List.replicate (xs.getD j slv0).bs.length (mark j))) ∧
            (∀ j, j < q → (zs.getD j slv0).bs = List.replicate ((xs.getD j slv0).bs.length + 40) (mark j) ∧ Row wr (zs.getD j slv0).o (List.replicate ((xs.getD j slv0).bs.length + 40) (mark j))) ∧
            (∀ j, j < xs.length → ∀ k, inO (xs.getD j slv0).o k → own2 k = 10 + j) ∧ (∀ j, j < q → ∀ k, inO (zs.getD j slv0).o k → own2 k = 10 + j ∧ k < wr.heap.size) ∧ (∀ k, inO oL k → own2 k = 3 ∧ w.heap.size ≤ k)) (fun _ i _ => N - (intOf i).toNat)
          case atStart =>
            exact ⟨0, none, 0, [], own, by omega, rfl, rfl, rfl, ownsX_nil _, HKQ.out, fun j hj => (HFN.out j hj).row (rep_lt _ _) (by rw [List.length_replicate]; have := (h.x j hj).2.2; omega), fun j _ hj => HFN.out j hj, fun j hj => by omega, h.tx, fun j hj => by omega, fun k ⟨y, hy, _⟩ => by cases hy⟩
          case round =>
            rename World => wq
            obtain ⟨q, oL, cL, zs, own2, hq, rfl, rfl, hzl, hOX, hKq, hRX, hOw, hZ, hTX, hTZ, hTL⟩ := hrel
            clear HFN HKQ
            have HZL : Hid (zs.length = q) := hzl
            clear hzl
            by_cases hlt : q < N
            · have hqx : q < xs.length := by have := HN.out; omega
              have hnX := (h.x q hqx).2.2
              have hFX := hOw q (Nat.le_refl _) hqx
              have hRXq := hRX q hqx
              obtain ⟨b1, f1, e1, hcl⟩ := h.l.at hqx
              have hlive1 := (h.tl b1 ⟨_, e1, rfl⟩).2
              have hb1 : ¬ Blocks xs b1 := by
                rintro ⟨i, hi, hin⟩
                have := h.tx i hi b1 hin
                have := (h.tl b1 ⟨_, e1, rfl⟩).1
                omega
              have hXlt := HXL.out q hqx
              obtain ⟨X, hX⟩ : ∃ X, X = xs.getD q slv0 := ⟨_, rfl⟩
              have HX : Hid (X = xs.getD q slv0) := hX
              rw [← hX] at hnX hFX hRXq hcl hXlt
              have hTXq : ∀ k, inO X.o k → own2 k = 10 + q := by rw [hX]; exact hTX q hqx
              clear hX
              obtain ⟨nX, hnn⟩ : ∃ nX, nX = X.bs.length := ⟨_, rfl⟩
              rw [← hnn] at hnX hFX hRXq
              have HNN : Hid (nX = X.bs.length) := hnn
              have g1 : wq.cell? ⟨b1, f1 + q, none⟩ = some (.slice X.o nX X.c) := by
                have := hKq.cell hcl hb1
                rw [hnn]
                exact this
              clear hnn hcl
              subst e1
              go_wp2_with fail
              go_loopw [10, 11] (fun x i wp => ∃ (k : Nat) (ox : Option Addr) (cx : Nat), k ≤ 40 ∧ i = .int .i64 k ∧ x = .slice ox (nX + k) cx ∧ Owns wp ox cx (List.replicate (nX + k) (mark q)) ∧ (ox = X.o ∨ ∀ y, inO ox y → wq.heap.size ≤ y) ∧ Row wp X.o (List.replicate nX (mark q)) ∧ Keeps (inO X.o) wq wp) (fun _ i _ => 40 - (intOf i).toNat)
              case atStart => exact ⟨0, X.o, X.c, by omega, rfl, rfl, hFX, .inl rfl, hRXq, Keeps.refl _ _⟩
              case round =>
                rename World => wp
                obtain ⟨k, ox, cx, hk, rfl, rfl, hOx, hox, hRx, hKp⟩ := hrel
                by_cases hlk : k < 40
                · have hrow := row_lit wp [mark q] (by intro c hc; simp at hc; rw [hc]; exact mark_lt q) (by simp)
                  have em : (vals [mark q]).toArray = #[Value.int .u8 (1 + (q : Int) % 250)] := by simp [vals, mark]
                  rw [em] at hrow
                  clear em
                  go_wp2_with (at_builtin; go_must (refine wpList_app3 rfl _ _ rfl ox _ cx (List.replicate (nX + k) (mark q)) (by rfl) (by simp) (hOx.alloc _) ⟨wp.heap.size, 0, none⟩ 1 1 [mark q] (by rfl) rfl hrow (by omega) ?_); rintro o3 c3 w3 hown3 hkey3)
                  go_roundw
                  case rel =>
                    have e : List.replicate (nX + k) (mark q) ++ [mark q] = List.replicate (nX + (k + 1)) (mark q) := by rw [← Nat.add_assoc, List.replicate_succ']
                    rw [e] at hown3
                    have hXq : ∀ y, inO X.o y → y < wq.heap.size := fun y hy => Nat.lt_of_lt_of_le (hXlt y hy) hKq.size
                    rcases hkey3 with ⟨rfl, hk3⟩ | ⟨⟨g, rfl, hg⟩, hk3⟩
                    · refine ⟨k + 1, o3, c3, by omega, by go_num, rfl, hown3, hox, ?_, ?_⟩
                      · rcases hox with rfl | hfr
                        · have := (hown3.row (rep_lt _ _) (by simp; omega)).take nX
                          rw [List.take_replicate, Nat.min_eq_left (by omega)] at this
                          exact this
                        · refine (hRx.keeps ((Keeps.refl (fun _ => False) wp).alloc _) (fun _ _ h => h)).keeps hk3 (fun x hx hin => ?_)
                          have := hfr _ hin
                          have := hXq x.block ⟨x, hx, rfl⟩
                          omega
                      · rcases hox with rfl | hfr
                        · exact (hKp.alloc _).then hk3 (fun i hi => .inl hi)
                        · exact (hKp.alloc _).then hk3 (fun i hi => .inr (hfr i hi))
                    · refine ⟨k + 1, _, c3, by omega, by go_num, rfl, hown3, .inr ?_, ?_, (hKp.alloc _).then hk3 (fun i hi => hi.elim)⟩
                      · rintro y ⟨z, hz, rfl⟩
                        cases hz
                        have := hKp.size
                        rw [World.size_alloc] at hg
                        show wq.heap.size ≤ g
                        omega
                      · exact (hRx.keeps ((Keeps.refl (fun _ => False) wp).alloc _) (fun _ _ h => h)).keeps hk3 (fun x hx hin => hin)
                  case measure => simp [intOf]; omega
                · have hk40 : k = 40 := by omega
                  subst hk40
                  have hXq : ∀ y, inO X.o y → y < wq.heap.size := fun y hy => Nat.lt_of_lt_of_le (hXlt y hy) hKq.size
                  have hOXp : OwnsX wp oL cL zs := hOX.keeps hKp (fun x hx hin => by have := (hTL x hx).2; have := hXlt x hin; omega)
                  have hrz : RowX (wp.alloc (.cells #[.slice ox (nX + 40) cx] 23)) (some ⟨wp.heap.size, 0, none⟩) [⟨ox, cx, List.replicate (nX + 40) (mark q)⟩] := by
                    refine .inr ⟨_, _, rfl, fun j hj => ?_⟩
                    rw [cell_of_blk (blk_new wp _)]
                    match j, hj with
                    | 0, _ => simp [SlV.val]
                  go_wp2_with (at_builtin; go_must (refine wpList_appX rfl _ _ rfl oL _ cL zs (by rfl) HZL.out.symm (hOXp.alloc _) ⟨wp.heap.size, 0, none⟩ 1 1 [⟨ox, cx, List.replicate (nX + 40) (mark q)⟩] (by rfl) rfl hrz (by omega) ?_); rintro o4 c4 w4 hown4 hfr4 hk4)
                  go_roundw
                  case rel =>
                    have hpl : Keeps (fun _ => False) wp (wp.alloc (.cells #[.slice ox (nX + 40) cx] 23)) := (Keeps.refl _ _).alloc _
                    have hsp := hKp.size
                    have hsa : wp.heap.size ≤ (wp.alloc (.cells #[.slice ox (nX + 40) cx] 23)).heap.size := hpl.size
                    have hoxl := hOx.lt
                    -- rows of others
                    have hother : ∀ (oo : Option Addr) (bb : List Nat), Row wq oo bb → (∀ x, inO oo x → ¬ inO X.o x) → (∀ x, inO oo x → ¬ inO oL x) → Row w4 oo bb := fun oo bb hr h1 h2 =>
                      ((hr.keeps hKp (fun x hx => h1 _ ⟨x, hx, rfl⟩)).keeps hpl (fun _ _ h => h)).keeps hk4 (fun x hx => h2 _ ⟨x, hx, rfl⟩)
                    have hLne : ∀ j, j < xs.length → ∀ x, inO (xs.getD j slv0).o x → ¬ inO oL x := fun j hj x hx hx' => by have := (hTL x hx').2; have := HXL.out j hj x hx; omega
                    have hownp : ∀ j, j ≠ q → j < xs.length → ∀ x, inO (xs.getD j slv0).o x → ¬ inO X.o x := fun j hj hjx x hx hx' => by have := hTX j hjx x hx; have := hTXq x hx'; omega
                    refine ⟨q + 1, o4, c4, zs ++ [⟨ox, cx, List.replicate (nX + 40) (mark q)⟩], bump (bump own2 wq.heap.size (10 + q)) wp.heap.size 3, by omega, by go_num, rfl, by rw [List.length_append, HZL.out]; rfl, hown4, ?_, ?_, ?_, ?_, ?_, ?_, ?_⟩
                    · exact ((hKq.then hKp (fun x hx => .inl ⟨q, hqx, by rw [← HX.out]; exact hx⟩)).trans (hpl.mono (fun _ h => h.elim))).then hk4 (fun x hx => .inr (hTL x hx).2)
                    · intro j hj
                      by_cases hjq : j = q
                      · subst hjq
                        rw [← HX.out, ← HNN.out]
                        refine (hRx.keeps hpl (fun _ _ h => h)).keeps hk4 (fun x hx => ?_)
                        have := hLne j hj x.block
                        rw [← HX.out] at this
                        exact this ⟨x, hx, rfl⟩
                      · exact hother _ _ (hRX j hj) (hownp j hjq hj) (hLne j hj)
                    · intro j hqj hj
                      have := hOw j (by omega) hj
                      exact ((this.keeps hKp (hownp j (by omega) hj)).keeps hpl (fun _ _ h => h)).keeps hk4 (hLne j hj)
                    · intro j hj
                      by_cases hjq : j = q
                      · subst hjq
                        have e := getD_last zs (⟨ox, cx, List.replicate (nX + 40) (mark j)⟩ : SlV) j HZL.out
                        rw [e, ← HX.out, ← HNN.out]
                        refine ⟨rfl, ((hOx.row (rep_lt _ _) (by simp; omega)).keeps hpl (fun _ _ h => h)).keeps hk4 (fun x hx hin => ?_)⟩
                        rcases hox with rfl | hfr
                        · have := (hTL _ hin).2; have := hXlt _ ⟨x, hx, rfl⟩; omega
                        · have := hfr _ ⟨x, hx, rfl⟩; have := hOX.lt _ hin; omega
                      · have e := getD_front zs (⟨ox, cx, List.replicate (nX + 40) (mark q)⟩ : SlV) j (by have := HZL.out; omega)
                        rw [e]
                        obtain ⟨z1, z2⟩ := hZ j (by omega)
                        refine ⟨z1, hother _ _ z2 (fun x hx hx' => ?_) (fun x hx hx' => ?_)⟩
                        · have := (hTZ j (by omega) x hx).1; have := hTXq x hx'; omega
                        · have := (hTZ j (by omega) x hx).1; have := (hTL x hx').1; omega
                    · intro j hj x hx
                      have hxl := HXL.out j hj x hx
                      have := hKq.size
                      unfold bump
                      rw [if_pos (by omega), if_pos (by omega)]
                      exact hTX j hj x hx
                    · intro j hj x hx
                      have s4 := hk4.size
                      by_cases hjq : j = q
                      · subst hjq
                        have e := getD_last zs (⟨ox, cx, List.replicate (nX + 40) (mark j)⟩ : SlV) j HZL.out
                        rw [e] at hx
                        have hxp := hoxl x hx
                        refine ⟨?_, by omega⟩
                        unfold bump
                        rw [if_pos hxp]
                        rcases hox with rfl | hfr
                        · rw [if_pos (hXq x hx)]; exact hTXq x hx
                        · rw [if_neg (by have := hfr x hx; omega)]
                      · have e := getD_front zs (⟨ox, cx, List.replicate (nX + 40) (mark q)⟩ : SlV) j (by have := HZL.out; omega)
                        rw [e] at hx
                        obtain ⟨t1, t2⟩ := hTZ j (by omega) x hx
                        refine ⟨?_, by omega⟩
                        unfold bump
                        rw [if_pos (by omega), if_pos t2]
                        exact t1
                    · intro x hx
                      rcases hfr4.in x hx with h' | h'
                      · obtain ⟨t1, t2⟩ := hTL x h'
                        have := hOX.lt x h'
                        refine ⟨?_, t2⟩
                        unfold bump
                        rw [if_pos (by omega), if_pos this]
                        exact t1
                      · have := hKq.size
                        refine ⟨?_, by omega⟩
                        unfold bump
                        rw [if_neg (by omega)]
                  case measure => simp [intOf]; omega
            · have hqN : q = N := by omega
              have hOXr := hOX.row
              go_wp2_with fail
              clear hlt hq
              go_loopw [12] (fun i wr => ∃ j : Nat, j ≤ N ∧ i = .int .i64 j ∧ wr = wq) (fun i _ => N - (intOf i).toNat)
              case atStart => exact ⟨0, by omega, rfl, rfl⟩
              case round =>
                obtain ⟨j, hj, rfl, rfl⟩ := hrel
                rename World => wu
                by_cases hlj : j < N
                · have hjx : j < xs.length := by have := HN.out; omega
                  have hjz : j < zs.length := by have := HZL.out; omega
                  have hnX := (h.x j hjx).2.2
                  have hRXj := hRX j hjx
                  obtain ⟨z1, hRZ⟩ := hZ j (by omega)
                  obtain ⟨b1, f1, e1, hcl⟩ := h.l.at hjx
                  have hb1 : ¬ Blocks xs b1 := by
                    rintro ⟨i, hi, hin⟩
                    have := h.tx i hi b1 hin
                    have := (h.tl b1 ⟨_, e1, rfl⟩).1
                    omega
                  have hcl2 := hKq.cell hcl hb1
                  obtain ⟨bL, fL, eL, hcL⟩ := hOXr.at hjz
                  obtain ⟨X, hX⟩ : ∃ X, X = xs.getD j slv0 := ⟨_, rfl⟩
                  obtain ⟨Z, hZZ⟩ : ∃ Z, Z = zs.getD j slv0 := ⟨_, rfl⟩
                  rw [← hX] at hnX hRXj hcl2 hRZ z1
                  rw [← hZZ] at hRZ z1 hcL
                  obtain ⟨nX, hnn⟩ : ∃ nX, nX = X.bs.length := ⟨_, rfl⟩
                  rw [← hnn] at hnX hRXj hRZ z1
                  have HRX : Hid (Row wu X.o (List.replicate nX (mark j))) := hRXj
                  have HRZ : Hid (Row wu Z.o (List.replicate (nX + 40) (mark j))) := hRZ
                  have g1 : wu.cell? ⟨b1, f1 + j, none⟩ = some (.slice X.o nX X.c) := by rw [hnn]; exact hcl2
                  have gL : wu.cell? ⟨bL, fL + j, none⟩ = some (.slice Z.o (nX + 40) Z.c) := by
                    rw [hcL]
                    unfold SlV.val
                    rw [z1, List.length_replicate]
                  clear hcl hcl2 hcL hRXj hRZ z1 hX hZZ hnn hb1
                  subst e1 eL
                  go_wp2_with fail
                  go_loopw [13] (fun i wr => ∃ k : Nat, k ≤ nX + 40 ∧ i = .int .i64 k ∧ wr = wu) (fun i _ => nX + 40 - (intOf i).toNat)
                  case atStart => exact ⟨0, by omega, rfl, rfl⟩
                  case round =>
                    obtain ⟨k, hk, rfl, rfl⟩ := hrel
                    rename World => wv
                    by_cases hlk : k < nX + 40
                    · obtain ⟨_, _, hz⟩ := HRZ.out
                      rcases hz with h0 | ⟨bz, fz, ez, hcz⟩
                      · have := congrArg List.length h0; simp at this
                      have hcz1 := hcz k (by simpa using hlk)
                      have em : ((List.replicate (nX + 40) (mark j)).getD k 0 : Nat) = mark j := by simp [List.getD_eq_getElem?_getD, hlk]
                      rw [em] at hcz1
                      have gz : wv.cell? ⟨bz, fz + k, none⟩ = some (.int .u8 (1 + (j : Int) % 250)) := by rw [hcz1]; simp [mark]
                      rw [ez] at gL
                      clear hcz hcz1 em ez
                      by_cases hkx : k < nX
                      · obtain ⟨_, _, hx⟩ := HRX.out
                        rcases hx with h0 | ⟨bx, fx, ex, hcx⟩
                        · have := congrArg List.length h0; simp at this; omega
                        have hcx1 := hcx k (by simpa using hkx)
                        have em : ((List.replicate nX (mark j)).getD k 0 : Nat) = mark j := by simp [List.getD_eq_getElem?_getD, hkx]
                        rw [em] at hcx1
                        have gx : wv.cell? ⟨bx, fx + k, none⟩ = some (.int .u8 (1 + (j : Int) % 250)) := by rw [hcx1]; simp [mark]
                        rw [ex] at g1
                        clear hcx hcx1 em ex
                        go_wp2_with fail
                        go_roundw
                        case rel => exact ⟨k + 1, by omega, by go_num, by trivial⟩
                        case measure => simp [intOf]; omega
                      · go_wp2_with fail
                        go_roundw
                        case rel => exact ⟨k + 1, by omega, by go_num, by trivial⟩
                        case measure => simp [intOf]; omega
                    · have hkn : k = nX + 40 := by omega
                      go_wp2_with fail
                      go_roundw
                      case rel => exact ⟨j + 1, by omega, by go_num, by trivial⟩
                      case measure => simp [intOf]; omega
                · go_wp2
                  go_ret
                  exact ⟨rfl, hKq⟩
end Go.Proofs.Ytclheacjhkoocaa
