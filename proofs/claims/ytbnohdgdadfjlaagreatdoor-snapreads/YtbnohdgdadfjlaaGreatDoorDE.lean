import Derived.Test.YtbnohdgdadfjlaaGreatDoorDQ
import Derived.Test.YtbnohdgdadfjlaaGreatDoorDL
import Derived.Deep.RegionHeld3
import Derived.Deep.RegionHeldLaw
/- The document's Read. -/
namespace Go.Proofs.YtbnohdgdadfjlaaGreatDoor
open Go.RowKit Go.Sort Orl Pk Go.Maps
set_option linter.unusedVariables false
set_option linter.unusedSimpArgs false

theorem DRd.bad {m : Nat} {w : World} {a : Nat} {st : DS} (h : DRd m w a st) : w.cell? ⟨a, 1, none⟩ = some (.bool st.2) := by
  obtain ⟨⟨o, c, h1, _⟩, _⟩ := h
  exact cell_of_blk h1 1
theorem DRd.left {m : Nat} {w : World} {a : Nat} {st : DS} (h : DRd m w a st) : ∃ o c, w.cell? ⟨a, 0, none⟩ = some (.slice o st.1.length c) := by
  obtain ⟨⟨o, c, h1, _⟩, _⟩ := h
  exact ⟨o, c, cell_of_blk h1 0⟩
theorem DRd.ne {m : Nat} {w : World} {a : Nat} {st : DS} (h : DRd m w a st) {α : Type} {E : El α} {o : Option Addr} {c : Nat} {xs : List α} (ho : Own E w o c xs) (ht : E.e ≠ 189) : ∀ b, inO o b → b ≠ a := by
  obtain ⟨⟨o', c', h1, _⟩, _⟩ := h
  exact own_ne ho h1 ht
/-- a list told, beside the reader -/
theorem DRd.app {m : Nat} {w0 w w' : World} {a : Nat} {st : DS} (h : DRd m w a st) (hm : m ≤ w0.heap.size) {α : Type} {E : El α} {o o1 : Option Addr} {c : Nat} {xs : List α} (ho : Own E w o c xs) (ht : E.e ≠ 189) (hn : New w0 o) (hk : Keeps no w0 w) (hap : Ap w o o1 w') : DRd m w' a st ∧ New w0 o1 ∧ Keeps no w0 w' := by
  have hne := h.ne ho ht
  rcases hap with ⟨rfl, hA⟩ | ⟨⟨g, rfl, hg⟩, hA⟩
  · exact ⟨h.keeps hA (fun k hk' hi => by have h1 := hn k hi; have h2 := hne k hi; omega), hn, hk.then hA (fun b hb => .inr (hn b hb))⟩
  · refine ⟨h.go hA, ?_, hk.trans hA⟩
    rintro b ⟨x, e, rfl⟩
    cases e
    exact Nat.le_trans hk.size hg
theorem tagsR : 119 ≠ 189 ∧ 51 ≠ 189 ∧ (9 : Nat) ≠ 189 ∧ 49 ≠ 189 := by decide
/-- an own list, while the reader reads -/
theorem Own.read {m : Nat} {w w' : World} {a : Nat} {st : DS} (h : DRd m w a st) {α : Type} {E : El α} {o : Option Addr} {c : Nat} {xs : List α} (ho : Own E w o c xs) (ht : E.e ≠ 189) (hk : Keeps (fun b => b = a) w w') : Own E w' o c xs := ho.keeps hk (fun b hb e => h.ne ho ht b hb e)
/-- a key of a version that is read: the reader has gone on, the list of keys is longer -/
theorem key_push {m a V nk : Nat} {v0 v1 v2 : Value} {w1 wq wr x2 x3 : World} {ok o3 : Option Addr} {ck c3 : Nat} {xs : List Tx} {tk : Tx} {st : DS} (hm : m = w1.heap.size)
    (hb : x2.heap[V]? = some (.cells #[v0, v1, v2, .slice ok nk ck] 49 (0, 0))) (ho : Own TE x2 ok ck xs) (hr : DRd m x2 a st) (hk : Keeps (fun b => b = a) wr x2) (hap : Ap x2 ok o3 x3) (ho3 : Own TE x3 o3 c3 (xs ++ [tk]))
    (hn : New wq ok) (hq : Keeps (fun b => b = a) wq wr) (h1 : Keeps no w1 wr) (h1q : w1.heap.size ≤ wq.heap.size) (hV : wq.heap.size ≤ V) (hVa : V ≠ a) (hma : w1.heap.size ≤ a) :
    x3.heap[V]? = some (.cells #[v0, v1, v2, .slice ok nk ck] 49 (0, 0)) ∧ (x3.setCell ⟨V, 3, none⟩ (.slice o3 (nk + 1) c3)).heap[V]? = some (.cells #[v0, v1, v2, .slice o3 (nk + 1) c3] 49 (0, 0)) ∧ Own TE (x3.setCell ⟨V, 3, none⟩ (.slice o3 (nk + 1) c3)) o3 c3 (xs ++ [tk]) ∧ New wq o3 ∧ DRd m (x3.setCell ⟨V, 3, none⟩ (.slice o3 (nk + 1) c3)) a st ∧ Keeps (fun b => b = a) wq (x3.setCell ⟨V, 3, none⟩ (.slice o3 (nk + 1) c3)) ∧ Keeps no w1 (x3.setCell ⟨V, 3, none⟩ (.slice o3 (nk + 1) c3)) := by
  have hne := hr.ne ho tagsR.2.2.1
  have hnV := own_ne ho hb (show TE.e ≠ 49 by decide)
  have hq2 : Keeps (fun b => b = a) wq x2 := hq.trans hk
  have h12 : Keeps no w1 x2 := h1.then hk (fun b hb => .inr (by have : b = a := hb; omega))
  have key : x3.heap[V]? = some (.cells #[v0, v1, v2, .slice ok nk ck] 49 (0, 0)) ∧ New wq o3 ∧ DRd m x3 a st ∧ Keeps (fun b => b = a) wq x3 ∧ Keeps no w1 x3 := by
    rcases hap with ⟨rfl, hA⟩ | ⟨⟨g, rfl, hg⟩, hA⟩
    · refine ⟨hA.at hb (fun hi => hnV V hi rfl), hn, hr.keeps hA (fun k hk' hi => by have e1 := hn k hi; have e2 := hne k hi; omega), hq2.then hA (fun b hb => .inr (hn b hb)), h12.then hA (fun b hb => .inr (by have := hn b hb; omega))⟩
    · refine ⟨hA.at hb id, ?_, hr.go hA, hq2.then hA (fun b hb => hb.elim), h12.trans hA⟩
      rintro b ⟨x, e, rfl⟩
      cases e
      exact Nat.le_trans hq2.size hg
  obtain ⟨k1, k2, k3, k4, k5⟩ := key
  have hnV3 := own_ne ho3 k1 (show TE.e ≠ 49 by decide)
  refine ⟨k1, blk_set k1 3 _, ho3.keeps (keeps_set x3 V 3 _) (fun b hb e => hnV3 b hb e), k2, k3.keeps (keeps_set x3 V 3 _) (fun k hk' e => by have e : k = V := e; omega), k4.setCell (.inr hV) _, k5.setCell (.inr (Nat.le_trans h1q hV)) _⟩
def DTo (w : World) (b : List Nat) (now : Int) (e : Ending) (w' : World) : Prop :=
  (tickB now = false ∧ e = .returned (.tuple #[.int .i64 0, .pointer none, .int .i64 1]) ∧ Keeps no w w') ∨
  (tickB now = true ∧ sumOk b = false ∧ e = .returned (.tuple #[.int .i64 0, .pointer none, .int .i64 90]) ∧ Keeps no w w') ∨
  (tickB now = true ∧ sumOk b = true ∧ ¬ DOk now b ∧ e = .returned (.tuple #[.int .i64 0, .pointer none, .int .i64 2]) ∧ Keeps no w w') ∨
  (tickB now = true ∧ sumOk b = true ∧ DOk now b ∧ ∃ p, e = .returned (.tuple #[.int .i64 (((d2 (bodyO b)).1 : Nat) : Int), .pointer (some ⟨p, 0, none⟩), .int .i64 0]) ∧ (dLs (bodyO b)).1.length < 4294967296 ∧ (dVs (bodyO b)).1.length < 4294967296 ∧ Ok (loadS (stk now (dLs (bodyO b)).1 (dVs (bodyO b)).1) (dLs (bodyO b)).1) ∧ Rm w p (loadS (stk now (dLs (bodyO b)).1 (dVs (bodyO b)).1) (dLs (bodyO b)).1) 4294967296 w')
/-- versions that the document has read -/
structure KzD (w1 : World) (a : Nat) (now : Int) (LL : List Mk) (kz : List KV) (o : Option Addr) (c : Nat) (w : World) (q : List VT × DS) : Prop where
  own : Own KE w o c kz
  new : New w1 o
  key : ∀ x ∈ kz, Own TE w x.o x.c x.keys ∧ New w1 x.o
  eq : kz.map KV.key = (stk now LL q.1).map KV.key
  rd : DRd w1.heap.size w a q.2
  keep : Keeps no w1 w
theorem Own.past {α β : Type} {E : El α} {D : El β} {w w' : World} {o o1 p : Option Addr} {c d : Nat} {xs : List α} {ys : List β} (k : Own D w p d ys) (h : Own E w o c xs) (hne : D.e ≠ E.e) (hap : Ap w o o1 w') : Own D w' p d ys := by
  rcases hap with ⟨_, hA⟩ | ⟨_, hA⟩
  · exact k.keeps hA (fun b hb hc => tags_ne k h hne b hb hc)
  · exact k.keepsN hA
theorem tagsK : 119 ≠ 51 ∧ (9 : Nat) ≠ 51 ∧ (9 : Nat) ≠ 49 := by decide
/-- a version more -/
theorem KzD.push {w1 wq w19 w21 : World} {a : Nat} {now : Int} {LL : List Mk} {kz : List KV} {o o1 lo : Option Addr} {c c1 lc : Nat} {Q : List VT × DS} {st : DS} {v : VT} {x : KV} {blk : Obj} (h : KzD w1 a now LL kz o c wq Q) (hq : Keeps (fun b => b = a) wq w19) (h1 : Keeps no w1 w19) (hr : DRd w1.heap.size w19 a st) (hx : Own TE w19 x.o x.c x.keys) (hxn : New wq x.o) (hxk : x.key = (v, stOf now LL v.1)) (hl : Own LE wq lo lc LL) (hap : Ap (w19.alloc blk) o o1 w21) (ho : Own KE w21 o1 c1 (kz ++ [x])) :
    KzD w1 a now LL (kz ++ [x]) o1 c1 w21 (Q.1 ++ [v], st) ∧ Own LE w21 lo lc LL := by
  have hq2 := hq.alloc blk
  have k0 : Own KE (w19.alloc blk) o c kz := h.own.read h.rd tagsR.2.1 hq2
  have hd := DRd.app (hr.go ((Keeps.refl no w19).alloc blk)) (Nat.le_refl _) k0 tagsR.2.1 h.new (h1.alloc blk) hap
  refine ⟨⟨ho, hd.2.1, ?_, ?_, hd.1, hd.2.2⟩, (hl.read h.rd tagsR.1 hq2).past k0 tagsK.1 hap⟩
  · intro y hy
    rw [List.mem_append] at hy
    rcases hy with hy | hy
    · exact ⟨((h.key y hy).1.read h.rd tagsR.2.2.1 hq2).past k0 tagsK.2.1 hap, (h.key y hy).2⟩
    · rw [List.mem_singleton.1 hy]
      exact ⟨(hx.keepsN ((Keeps.refl no w19).alloc blk)).past k0 tagsK.2.1 hap, fun b hb => Nat.le_trans h.keep.size (hxn b hb)⟩
  · rw [List.map_append, h.eq]
    unfold stk
    rw [List.map_append, List.map_append]
    congr 1
    simp only [List.map_cons, List.map_nil, List.cons.injEq, and_true]
    rw [hxk]
    rfl
theorem tail4 (b : List Nat) (h : 4 ≤ b.length) : tailO b = [b.getD (b.length - 4) 0, b.getD (b.length - 4 + 1) 0, b.getD (b.length - 4 + 2) 0, b.getD (b.length - 4 + 3) 0] := by
  unfold tailO
  apply List.ext_getElem?
  intro j
  rw [List.getElem?_drop]
  match j with
  | 0 => simp [List.getD_eq_getElem?_getD, show b.length - 4 < b.length by omega]
  | 1 => simp [List.getD_eq_getElem?_getD, show b.length - 4 + 1 < b.length by omega]
  | 2 => simp [List.getD_eq_getElem?_getD, show b.length - 4 + 2 < b.length by omega]
  | 3 => simp [List.getD_eq_getElem?_getD, show b.length - 4 + 3 < b.length by omega]
  | j + 4 => rw [List.getElem?_eq_none (by omega), List.getElem?_eq_none (by simp)]
theorem sum4 (b : List Nat) (h : 4 ≤ b.length) (x0 x1 x2 x3 : Nat) (h0 : x0 = b.getD (b.length - 4) 0) (h1 : x1 = b.getD (b.length - 4 + 1) 0) (h2 : x2 = b.getD (b.length - 4 + 2) 0) (h3 : x3 = b.getD (b.length - 4 + 3) 0) : sumOk b = decide (((x0 * 256 + x1) * 256 + x2) * 256 + x3 = Crc.sum (bodyO b)) := by
  unfold sumOk
  have e : tailO b = [x0, x1, x2, x3] := by rw [h0, h1, h2, h3]; exact tail4 b h
  have e2 : (rnum 4 ([x0, x1, x2, x3], 0)).1 = ((x0 * 256 + x1) * 256 + x2) * 256 + x3 := by simp [rnum, val]
  rw [decide_eq_true h, Bool.true_and, e, e2]
set_option maxRecDepth 100000 in
set_option maxHeartbeats 8000000 in
theorem dRead_any (w : World) (o : Option Addr) (n c : Nat) (b : List Nat) (now : Int) (hn : n = b.length) (h : BSl w o c b) (hlid : b.length ≤ 140737488351236) :
    Calls Tryz.prog 72 #[.slice o n c, .int .i64 now] w fun e w' => DTo w b now e w' := by
  have HB : Hid (n = b.length ∧ BSl w o c b ∧ b.length ≤ 140737488351236 ∧ (∀ c ∈ b, c < 256)) := ⟨hn, h, hlid, h.row.1⟩
  have hnb : (n : Int) ≤ 140737488351236 := by omega
  clear hn h hlid
  go_enter Tryz.func72, Tryz.ntmps72
  cases ht : tickB now with
  | false =>
    have HT : Hid (tickB now = false) := ht
    have hc : now < 0 ∨ ¬ now < 0 ∧ now > 1099511627776 := by
      have : ¬ (0 ≤ now ∧ now ≤ 1099511627776) := fun h => by rw [tick_iff.2 h] at ht; cases ht
      omega
    clear ht
    rcases hc with hc | ⟨hc, hc2⟩
    · go_wp2_with fail
      go_ret3
      exact .inl ⟨HT.out, rfl, Keeps.refl _ _⟩
    · go_wp2_with fail
      go_ret3
      exact .inl ⟨HT.out, rfl, Keeps.refl _ _⟩
  | true =>
  have HT : Hid (tickB now = true) := ht
  have htt := tick_iff.1 ht
  have hc1 : ¬ now < 0 := by omega
  have hc2 : ¬ now > 1099511627776 := by omega
  clear ht htt
  by_cases h4 : n < 4
  · have h4' : (n : Int) - 4 < 0 := by omega
    have HE : Hid (sumOk b = false) := (show _ = _ by unfold sumOk; rw [decide_eq_false (by have := HB.out.1; omega)]; rfl)
    go_upto_region 4 with fail
    go_region
    go_wp2_with fail
    go_ret3
    exact .inr (.inl ⟨HT.out, HE.out, rfl, (Keeps.refl no w).drew⟩)
  have h4' : ¬ (n : Int) - 4 < 0 := by omega
  obtain ⟨q, hq⟩ : ∃ q, n = q + 4 := ⟨n - 4, by omega⟩
  have HQ : Hid (b.length - 4 = q ∧ 4 ≤ b.length ∧ n = q + 4) := ⟨by have := HB.out.1; omega, by have := HB.out.1; omega, hq⟩
  have hq4 : ((n : Nat) : Int) - 4 = ((q : Nat) : Int) := by omega
  have hb0 : ((q : Nat) : Int) < n := by omega
  obtain ⟨q1, hq1⟩ : ∃ q1, q1 = q + 1 := ⟨_, rfl⟩
  obtain ⟨q2, hq2⟩ : ∃ q2, q2 = q + 2 := ⟨_, rfl⟩
  obtain ⟨q3, hq3⟩ : ∃ q3, q3 = q + 3 := ⟨_, rfl⟩
  have hq1' : ((q : Nat) : Int) + 1 = ((q1 : Nat) : Int) := by omega
  have hq2' : ((q : Nat) : Int) + 2 = ((q2 : Nat) : Int) := by omega
  have hq3' : ((q : Nat) : Int) + 3 = ((q3 : Nat) : Int) := by omega
  have hw1 : IntKind.i64.wrap (((q : Nat) : Int) + 1) = ((q1 : Nat) : Int) := by rw [IntKind.wrap_i64]; omega
  have hv1 : IntKind.i64.wrap ((q1 : Nat) : Int) = ((q1 : Nat) : Int) := by rw [IntKind.wrap_i64]; omega
  have hw2 : IntKind.i64.wrap (((q : Nat) : Int) + 2) = ((q2 : Nat) : Int) := by rw [IntKind.wrap_i64]; omega
  have hv2 : IntKind.i64.wrap ((q2 : Nat) : Int) = ((q2 : Nat) : Int) := by rw [IntKind.wrap_i64]; omega
  have hw3 : IntKind.i64.wrap (((q : Nat) : Int) + 3) = ((q3 : Nat) : Int) := by rw [IntKind.wrap_i64]; omega
  have hv3 : IntKind.i64.wrap ((q3 : Nat) : Int) = ((q3 : Nat) : Int) := by rw [IntKind.wrap_i64]; omega
  have hb1 : ((q1 : Nat) : Int) < n := by omega
  have hb2 : ((q2 : Nat) : Int) < n := by omega
  have hb3 : ((q3 : Nat) : Int) < n := by omega
  have hb4 : ((q : Nat) : Int) ≤ n := by omega
  have HQ3 : Hid (q1 = q + 1 ∧ q2 = q + 2 ∧ q3 = q + 3) := ⟨hq1, hq2, hq3⟩
  clear hq
  rcases HB.out.2.1.row.2.2 with e | ⟨bb, off, e1, hc⟩
  · have := HQ.out.2.1; rw [e] at this; simp at this
  subst e1
  have HCL : Hid (∀ X, Keeps no w X → X.cell? ⟨bb, off + q, none⟩ = some (.int .u8 (b.getD q 0 : Nat)) ∧ X.cell? ⟨bb, off + q1, none⟩ = some (.int .u8 (b.getD q1 0 : Nat)) ∧ X.cell? ⟨bb, off + q2, none⟩ = some (.int .u8 (b.getD q2 0 : Nat)) ∧ X.cell? ⟨bb, off + q3, none⟩ = some (.int .u8 (b.getD q3 0 : Nat))) := fun X hX => by
    have := HB.out.1
    have := HQ.out.2.2
    have := HQ3.out
    exact ⟨hX.cellN (hc q (by omega)), hX.cellN (hc q1 (by omega)), hX.cellN (hc q2 (by omega)), hX.cellN (hc q3 (by omega))⟩
  have HX4 : Hid (b.getD q 0 < 256 ∧ b.getD q1 0 < 256 ∧ b.getD q2 0 < 256 ∧ b.getD q3 0 < 256) := by
    have := HB.out.1
    have := HQ.out.2.2
    have := HQ3.out
    exact ⟨getD_lt b HB.out.2.2.2 _ (by omega), getD_lt b HB.out.2.2.2 _ (by omega), getD_lt b HB.out.2.2.2 _ (by omega), getD_lt b HB.out.2.2.2 _ (by omega)⟩
  have hsm := sum4 b HQ.out.2.1 (b.getD q 0) (b.getD q1 0) (b.getD q2 0) (b.getD q3 0) (by rw [HQ.out.1]) (by rw [HQ.out.1, HQ3.out.1]) (by rw [HQ.out.1, HQ3.out.2.1]) (by rw [HQ.out.1, HQ3.out.2.2])
  generalize b.getD q 0 = x0 at HCL HX4 hsm
  generalize b.getD q1 0 = x1 at HCL HX4 hsm
  generalize b.getD q2 0 = x2 at HCL HX4 hsm
  generalize b.getD q3 0 = x3 at HCL HX4 hsm
  have HSM : Hid (sumOk b = decide (((x0 * 256 + x1) * 256 + x2) * 256 + x3 = Crc.sum (bodyO b))) := hsm
  obtain ⟨A, dA, hcutA, hslA, hsubA⟩ := cut_h w (some ⟨bb, off, none⟩) c b n q ((q : Nat) : Int) rfl HB.out.1 (by omega) HB.out.2.1
  have HSL : Hid (BSl w A dA (bodyO b) ∧ q = (bodyO b).length) := ⟨by unfold bodyO; rw [HQ.out.1]; exact hslA, by unfold bodyO; rw [List.length_take, HQ.out.1]; have := HQ.out.2; have := HQ.out.1; omega⟩
  have HOR : Hid (bits .or .u32 (bits .or .u32 (bits .or .u32 ((x0 : Int) % 4294967296 * 16777216 % 4294967296) ((x1 : Int) % 4294967296 * 65536 % 4294967296)) ((x2 : Int) % 4294967296 * 256 % 4294967296)) ((x3 : Int) % 4294967296) = (((((x0 * 256 + x1) * 256 + x2) * 256 + x3 : Nat)) : Int)) := or4 x0 x1 x2 x3 HX4.out.1 HX4.out.2.1 HX4.out.2.2.1 HX4.out.2.2.2
  clear hslA hsubA hsm hc hq1 hq2 hq3
  go_upto_region 4 with fail
  go_cut [68] from 31 to 69 (fun v wc => v = .bool (!sumOk b) ∧ Hid (Keeps no w wc))
  case first =>
    go_region_held3 (fun X => X.cell? ⟨bb, off + q, none⟩ = some (.int .u8 (x0 : Nat)) ∧ X.cell? ⟨bb, off + q1, none⟩ = some (.int .u8 (x1 : Nat)) ∧ X.cell? ⟨bb, off + q2, none⟩ = some (.int .u8 (x2 : Nat)) ∧ X.cell? ⟨bb, off + q3, none⟩ = some (.int .u8 (x3 : Nat))) (first | exact HCL.out _ (Keeps.refl no _) | exact HCL.out _ ((Keeps.refl no _).drew)) ((first | (go_at_call 66; refine (dSum_any _ A q dA (bodyO b) HSL.out.2 (HSL.out.1.row.keeps ((Keeps.refl no w).drew) (fun _ _ => id))).mono ?_; rintro e y1 ⟨rfl, hy⟩; subst y1)))
    go_wp2_with fail
    go_meet
    case rel =>
      refine ⟨?_, (Keeps.refl no w).drew⟩
      have hq0 : ¬ ((q : Nat) : Int) < 0 := by omega
      rw [HSM.out, decide_eq_false hq0, Bool.false_or]
      have ho := HOR.out
      simp only [IntKind.wrap_u32]
      rw [ho]
      generalize ((x0 * 256 + x1) * 256 + x2) * 256 + x3 = X
      generalize Crc.sum (bodyO b) = S
      congr 1
      by_cases hx : X = S
      · subst hx; simp
      · have : ¬ ((X : Nat) : Int) = ((S : Nat) : Int) := fun e => hx (by omega)
        have h2 : (((X : Nat) : Int) == ((S : Nat) : Int)) = false := by rw [beq_eq_false_iff_ne]; exact this
        simp only [bne, h2, decide_eq_false hx]
  case rest =>
  obtain ⟨rfl, HK0⟩ := hcut
  rename World => w1
  cases hsm : sumOk b with
  | false =>
    have HSF : Hid (sumOk b = false) := hsm
    clear hsm
    go_wp2_with fail
    go_ret3
    exact .inr (.inl ⟨HT.out, HSF.out, rfl, HK0.out⟩)
  | true =>
  have HST : Hid (sumOk b = true) := hsm
  obtain ⟨B, hB⟩ : ∃ B, B = bodyO b := ⟨_, rfl⟩
  have HBB : Hid (B = bodyO b) := hB
  rw [← hB] at HSL
  have HDR0 : Hid (DRd w1.heap.size (w1.alloc (.cells #[.slice A q dA, .bool false] 189)) w1.heap.size (B, false)) := by
    have hs1 := HSL.out.1.keepsN HK0.out
    refine ⟨⟨A, dA, ?_, hs1.keepsN ((Keeps.refl no w1).alloc _), fun hne k hk => ?_⟩, Nat.le_refl _, ?_, ?_⟩
    · rw [← HSL.out.2]; exact blk_new w1 _
    · exact hs1.lt hne k hk
    · have := HSL.out.2; have := HB.out.2.2.1; have := HQ.out; have := HB.out.1; simp only; omega
    · rw [hB]; exact bodyO_byt HB.out.2.2.2
  clear hsm hB HOR HSM HX4 HCL HQ3 hw1 hw2 hw3 hv1 hv2 hv3 hq1' hq2' hq3' hb1 hb2 hb3
  go_wp2_with fail
  refine (dTake_any HDR0.out 5 (by omega)).mono ?_
  rintro e w2 ⟨o2, n2, c2, rfl, H2⟩
  have HK2 : Hid (Keeps no w1 w2) := ((Keeps.refl no w1).alloc (.cells #[.slice A q dA, .bool false] 189)).then H2.out.2.2.2 (fun k hk => .inr (by have : k = w1.heap.size := hk; omega))
  obtain ⟨a, ha⟩ : ∃ a, a = w1.heap.size := ⟨_, rfl⟩
  have HR2 : Hid (DRd w1.heap.size w2 a (d1 B).2 ∧ w1.heap.size ≤ a) := by rw [ha]; exact ⟨H2.out.2.2.1, Nat.le_refl _⟩
  rw [← ha] at H2 ⊢
  clear H2 HDR0 ha
  go_wp2_with fail
  refine (dNum_any HR2.out.1 8 (by omega)).mono ?_
  rintro e w3 ⟨g, rfl, H3⟩
  have hg64 : ((g : Nat) : Int) < 18446744073709551616 := by have := H3.out.2.1; omega
  have HK3 : Hid (Keeps no w1 w3) := HK2.out.then H3.out.2.2.2 (fun k hk => .inr (by have : k = a := hk; have := HR2.out.2; omega))
  have HG : Hid (g = (d2 B).1) := H3.out.1
  have HR3 : Hid (DRd w1.heap.size w3 a (d2 B).2) := H3.out.2.2.1
  clear H3
  go_wp2_with fail
  refine (dNum_any HR3.out 4 (by omega)).mono ?_
  rintro e w4 ⟨N1, rfl, H4⟩
  have hN1 : ((N1 : Nat) : Int) < 4294967296 := by have := H4.out.2.1; omega
  have HK4 : Hid (Keeps no w1 w4) := HK3.out.then H4.out.2.2.2 (fun k hk => .inr (by have : k = a := hk; have := HR2.out.2; omega))
  have HN1 : Hid (N1 = (d3 B).1 ∧ DRd w1.heap.size w4 a (d3 B).2) := ⟨H4.out.1, H4.out.2.2.1⟩
  clear H4
  go_upto_block 0 with fail
  go_cut [10, 11, 12] from 81 to 101 (fun l _ _ wc => ∃ o n c, l = .slice o n c ∧ Hid (n = (dLs B).1.length ∧ Own LE wc o c (dLs B).1 ∧ New w1 o ∧ DRd w1.heap.size wc a (dLs B).2 ∧ Keeps no w1 wc ∧ (dLs B).1.length < 4294967296))
  case first =>
    go_wp2_with fail
    go_loopw [10, 11, 12] (fun l i _ wr => ∃ (j I : Nat) (o : Option Addr) (n c : Nat), l = .slice o n c ∧ i = .int .u64 ((I : Nat) : Int) ∧ I + j = N1 ∧ Hid (n = (dmany dlast j (d3 B).2).1.length ∧ Own LE wr o c (dmany dlast j (d3 B).2).1 ∧ New w1 o ∧ DRd w1.heap.size wr a (dmany dlast j (d3 B).2).2 ∧ Keeps no w1 wr)) (fun _ i _ _ => (intOf i).toNat)
    case atStart => exact ⟨0, N1, none, 0, 0, rfl, rfl, by omega, rfl, own_nil _, new_none _, HN1.out.2, HK4.out⟩
    case round =>
      rename World => wq
      obtain ⟨j, I, o, n, c, rfl, rfl, hIj, HW⟩ := hrel
      have hln := dmany_len dlast (d3 B).2 j
      have HLn : Hid ((dmany dlast j (d3 B).2).1.length ≤ j) := hln
      obtain ⟨Q, hQ⟩ : ∃ Q, Q = dmany dlast j (d3 B).2 := ⟨_, rfl⟩
      have HQ5 : Hid (Q = dmany dlast j (d3 B).2) := hQ
      rw [← hQ] at HW HLn
      have hcell := HW.out.2.2.2.1.bad
      have HEND : Hid (I = 0 ∨ Q.2.2 = true → ∃ o' n' c', Value.slice o n c = .slice o' n' c' ∧ Hid (n' = (dLs B).1.length ∧ Own LE wq o' c' (dLs B).1 ∧ New w1 o' ∧ DRd w1.heap.size wq a (dLs B).2 ∧ Keeps no w1 wq ∧ (dLs B).1.length < 4294967296)) := fun hc => by
        have e : dLs B = Q := by
          unfold dLs
          rw [← HN1.out.1, HQ5.out]
          rcases hc with h0 | h0
          · rw [show N1 = j by omega]
          · rw [HQ5.out] at h0; exact dmany_stuck dlast _ j h0 N1 (by omega)
        rw [e]
        exact ⟨o, n, c, rfl, HW.out.1, HW.out.2.1, HW.out.2.2.1, HW.out.2.2.2.1, HW.out.2.2.2.2, by have := HLn.out; omega⟩
      clear hln hQ
      by_cases hI : I = 0
      · subst hI
        clear hcell
        go_wp2_with fail
        go_meet
        case rel => exact HEND.out (.inl (by simp))
      · have HIJ : Hid (I + j = N1 ∧ 0 < I) := ⟨hIj, by omega⟩
        obtain ⟨z, hz⟩ : ∃ z : Int, z = ((I : Nat) : Int) := ⟨_, rfl⟩
        have hI' : z > 0 := by omega
        have hI4 : z < 4294967296 := by omega
        rw [← hz]
        have HZ : Hid (z = ((I : Nat) : Int)) := hz
        clear hIj hI hz
        cases hbad : Q.2.2 with
        | true =>
          rw [hbad] at hcell
          have HBd : Hid (Q.2.2 = true) := hbad
          clear hbad
          go_wp2_with fail
          go_meet
          case rel => exact HEND.out (.inr HBd.out)
        | false =>
          rw [hbad] at hcell
          have HBd : Hid (dmany dlast (j + 1) (d3 B).2 = (Q.1 ++ [(dlast Q.2).1], (dlast Q.2).2)) := (show _ = _ by rw [HQ5.out] at hbad ⊢; exact dmany_step dlast _ j hbad)
          clear hbad HEND
          go_wp2_with fail
          refine (dTxt_any HW.out.2.2.2.1).mono ?_
          rintro e w5 ⟨t, rfl, H5⟩
          clear hcell
          go_wp2_with fail
          refine (dNum_any H5.out.2.1 8 (by omega)).mono ?_
          rintro e w6 ⟨v, rfl, H6⟩
          have HV : Hid ((t, v) = (dlast Q.2).1 ∧ DRd w1.heap.size w6 a (dlast Q.2).2 ∧ Own LE w6 o c Q.1 ∧ Keeps no w1 w6) := by
            refine ⟨by unfold dlast; rw [H5.out.1, H6.out.1], H6.out.2.2.1, (HW.out.2.1.read HW.out.2.2.2.1 tagsR.1 H5.out.2.2).read H5.out.2.1 tagsR.1 H6.out.2.2.2, ?_⟩
            refine (HW.out.2.2.2.2.then H5.out.2.2 ?_).then H6.out.2.2.2 ?_ <;> exact fun k hk => .inr (by have : k = a := hk; have := HR2.out.2; omega)
          clear H5 H6
          have HROW : Hid (Row LE (w6.alloc (.cells #[.string t, .int .u64 ((v : Nat) : Int)] 119)) (some ⟨w6.heap.size, 0, none⟩) [(t, v)]) := (own_oneL w6 (t, v)).row
          go_wp2_with (at_builtin; refine wpList_app okL rfl _ _ rfl _ _ _ Q.1 rfl HW.out.1 (HV.out.2.2.1.keepsN ((Keeps.refl no w6).alloc _)) _ _ _ [(t, v)] rfl rfl (fun h => by cases h) HROW.out (by have := HLn.out; have := HIJ.out; simp [LE]; omega) (by have := HLn.out; have := HIJ.out; simp; omega) ?_; intro o1 c1 w7 ho7 hap7)
          go_roundw
          case rel =>
            have hd := DRd.app (HV.out.2.1.go ((Keeps.refl no w6).alloc _)) (Nat.le_refl _) (HV.out.2.2.1.keepsN ((Keeps.refl no w6).alloc _)) tagsR.1 HW.out.2.2.1 (HV.out.2.2.2.alloc _) hap7
            refine ⟨j + 1, I - 1, o1, n + 1, c1, rfl, ?_, by have := HIJ.out; omega, ?_⟩
            · congr 1; have := HZ.out; have := HIJ.out; omega
            · rw [HBd.out, ← HV.out.1]
              exact ⟨by rw [HW.out.1]; simp, ho7, hd.2.1, hd.1, hd.2.2⟩
          case measure => simp [intOf]; omega
  case rest =>
  obtain ⟨lo, ln, lc, rfl, HL⟩ := hcut
  rename World => w8
  clear HN1 HK4 HR3 HK3
  go_wp2_with fail
  refine (dNum_any HL.out.2.2.2.1 4 (by omega)).mono ?_
  rintro e w9 ⟨N2, rfl, H9⟩
  have hN2 : ((N2 : Nat) : Int) < 4294967296 := by have := H9.out.2.1; omega
  have HK9 : Hid (Keeps no w1 w9) := HL.out.2.2.2.2.1.then H9.out.2.2.2 (fun k hk => .inr (by have : k = a := hk; have := HR2.out.2; omega))
  have HN2 : Hid (N2 = (d5 B).1 ∧ DRd w1.heap.size w9 a (d5 B).2 ∧ Own LE w9 lo lc (dLs B).1) := ⟨H9.out.1, H9.out.2.2.1, HL.out.2.1.read HL.out.2.2.2.1 tagsR.1 H9.out.2.2.2⟩
  have HLL : Hid (ln = (dLs B).1.length ∧ (dLs B).1.length < 4294967296 ∧ New w1 lo) := ⟨HL.out.1, HL.out.2.2.2.2.2, HL.out.2.2.1⟩
  obtain ⟨LL, hLL⟩ : ∃ LL, LL = (dLs B).1 := ⟨_, rfl⟩
  have HLQ : Hid (LL = (dLs B).1) := hLL
  rw [← hLL] at HN2 HLL
  clear H9 HL hLL
  go_upto_block 2 with fail
  go_cut [13, 14, 15, 16, 17] from 103 to 158 (fun l _ _ _ _ wc => ∃ o n c, l = .slice o n c ∧ Hid (∃ kz, KzD w1 a now LL kz o c wc (dVs B) ∧ n = kz.length ∧ Own LE wc lo lc LL))
  case first =>
    go_wp2_with fail
    go_loopw [13, 14, 15, 16, 17] (fun l i _ _ _ wr => ∃ (j I : Nat) (o : Option Addr) (n c : Nat), l = .slice o n c ∧ i = .int .u64 ((I : Nat) : Int) ∧ I + j = N2 ∧ Hid (∃ kz, KzD w1 a now LL kz o c wr (dmany dver j (d5 B).2) ∧ n = kz.length ∧ Own LE wr lo lc LL)) (fun _ i _ _ _ _ => (intOf i).toNat)
    case atStart => exact ⟨0, N2, none, 0, 0, rfl, rfl, by omega, [], ⟨own_nil _, new_none _, fun x hx => (by cases hx), rfl, HN2.out.2.1, HK9.out⟩, rfl, HN2.out.2.2⟩
    case round =>
      rename World => wq
      obtain ⟨j, I, o, n, c, rfl, rfl, hIj, HW0⟩ := hrel
      obtain ⟨kz, HWa⟩ := HW0.out
      have HW : Hid (KzD w1 a now LL kz o c wq (dmany dver j (d5 B).2) ∧ n = kz.length ∧ Own LE wq lo lc LL) := HWa
      clear HW0 HWa
      have hln := dmany_len dver (d5 B).2 j
      have HLn : Hid ((dmany dver j (d5 B).2).1.length ≤ j) := hln
      obtain ⟨Q, hQ⟩ : ∃ Q, Q = dmany dver j (d5 B).2 := ⟨_, rfl⟩
      have HQ5 : Hid (Q = dmany dver j (d5 B).2) := hQ
      rw [← hQ] at HW HLn
      have hcell := HW.out.1.rd.bad
      have HEND : Hid (I = 0 ∨ Q.2.2 = true → ∃ o' n' c', Value.slice o n c = .slice o' n' c' ∧ Hid (∃ kz, KzD w1 a now LL kz o' c' wq (dVs B) ∧ n' = kz.length ∧ Own LE wq lo lc LL)) := fun hc => by
        have e : dVs B = Q := by
          unfold dVs
          rw [← HN2.out.1, HQ5.out]
          rcases hc with h0 | h0
          · rw [show N2 = j by omega]
          · rw [HQ5.out] at h0; exact dmany_stuck dver _ j h0 N2 (by omega)
        rw [e]
        exact ⟨o, n, c, rfl, kz, HW.out⟩
      clear hln hQ
      by_cases hI : I = 0
      · subst hI
        clear hcell
        go_wp2_with fail
        go_meet
        case rel => exact HEND.out (.inl (by simp))
      · have HIJ : Hid (I + j = N2 ∧ 0 < I) := ⟨hIj, by omega⟩
        obtain ⟨z, hz⟩ : ∃ z : Int, z = ((I : Nat) : Int) := ⟨_, rfl⟩
        have hI' : z > 0 := by omega
        have hI4 : z < 4294967296 := by omega
        rw [← hz]
        have HZ : Hid (z = ((I : Nat) : Int)) := hz
        clear hIj hI hz
        cases hbad : Q.2.2 with
        | true =>
          rw [hbad] at hcell
          have HBd : Hid (Q.2.2 = true) := hbad
          clear hbad
          go_wp2_with fail
          go_meet
          case rel => exact HEND.out (.inr HBd.out)
        | false =>
          rw [hbad] at hcell
          have HBd : Hid (dmany dver (j + 1) (d5 B).2 = (Q.1 ++ [(dver Q.2).1], (dver Q.2).2)) := (show _ = _ by rw [HQ5.out] at hbad ⊢; exact dmany_step dver _ j hbad)
          clear hbad HEND
          go_wp2_with fail
          refine (dTxt_any HW.out.1.rd).mono ?_
          rintro e w10 ⟨t1, rfl, H10⟩
          clear hcell
          have HaV : Hid (a < w10.heap.size) := (show _ < _ by obtain ⟨⟨_, _, h1, _⟩, _⟩ := H10.out.2.1; exact lt_of_block h1)
          have HK10 : Hid (Keeps no w1 w10) := HW.out.1.keep.then H10.out.2.2 (fun k hk => .inr (by have : k = a := hk; have := HR2.out.2; omega))
          go_wp2_with fail
          refine (dNum_any (H10.out.2.1.go ((Keeps.refl no w10).alloc (.cells #[.string t1, .int .u64 0, .string ⟨#[]⟩, .slice none 0 0] 49))) 8 (by omega)).mono ?_
          rintro e w11 ⟨i1, rfl, H11⟩
          obtain ⟨V, hV⟩ : ∃ V, V = w10.heap.size := ⟨_, rfl⟩
          have HV1 : Hid (w11.heap[V]? = some (.cells #[.string t1, .int .u64 0, .string ⟨#[]⟩, .slice none 0 0] 49 (0, 0)) ∧ V ≠ a ∧ w1.heap.size ≤ V) := by
            rw [hV]
            exact ⟨H11.out.2.2.2.at (blk_new w10 _) (fun e => by have := HaV.out; have e : w10.heap.size = a := e; omega), (by have := HaV.out; omega), HK10.out.size⟩
          have hi64 : ((i1 : Nat) : Int) < 18446744073709551616 := by have := H11.out.2.1; omega
          rw [← hV]
          have HK11 : Hid (Keeps no w1 w11) := (HK10.out.alloc _).then H11.out.2.2.2 (fun k hk => .inr (by have : k = a := hk; have := HR2.out.2; omega))
          have f1 := frozen_of_blk HV1.out.1 1
          have z1 := cell_of_blk HV1.out.1 1
          simp only [List.getElem?_toArray, List.getElem?_cons_succ, List.getElem?_cons_zero] at z1
          have HB1 : Hid ((w11.setCell ⟨V, 1, none⟩ (.int .u64 ((i1 : Nat) : Int))).heap[V]? = some (.cells #[.string t1, .int .u64 ((i1 : Nat) : Int), .string ⟨#[]⟩, .slice none 0 0] 49 (0, 0)) ∧ DRd w1.heap.size (w11.setCell ⟨V, 1, none⟩ (.int .u64 ((i1 : Nat) : Int))) a (dv2 Q.2).2 ∧ Keeps no w1 (w11.setCell ⟨V, 1, none⟩ (.int .u64 ((i1 : Nat) : Int))) ∧ i1 = (dv2 Q.2).1) := ⟨blk_set HV1.out.1 1 _, DRd.keeps H11.out.2.2.1 (keeps_set w11 V 1 _) (fun k hk e => by have e : k = V := e; have := HV1.out.2; omega), HK11.out.setCell (.inr HV1.out.2.2) _, H11.out.1⟩
          have HVq : Hid (wq.heap.size ≤ V) := (show _ ≤ _ by rw [hV]; exact H10.out.2.2.size)
          have HA1 : Hid (Keeps (fun b => b = a) wq (w11.setCell ⟨V, 1, none⟩ (.int .u64 ((i1 : Nat) : Int)))) := ((H10.out.2.2.alloc (.cells #[.string t1, .int .u64 0, .string ⟨#[]⟩, .slice none 0 0] 49)).trans H11.out.2.2.2).setCell (.inr HVq.out) _
          have HT1 : Hid (t1 = text (dtxt Q.2).1) := H10.out.1
          clear hV
          go_wp2_with fail
          generalize w11.setCell ⟨V, 1, none⟩ (.int .u64 ((i1 : Nat) : Int)) = w12 at HB1 HA1 ⊢
          clear f1 z1
          refine (dTxt_any HB1.out.2.1).mono ?_
          rintro e w13 ⟨t2, rfl, H13⟩
          have HV2 : Hid (w13.heap[V]? = some (.cells #[.string t1, .int .u64 ((i1 : Nat) : Int), .string ⟨#[]⟩, .slice none 0 0] 49 (0, 0)) ∧ Keeps no w1 w13) := ⟨H13.out.2.2.at HB1.out.1 (fun e => by have e : V = a := e; have := HV1.out.2; omega), HB1.out.2.2.1.then H13.out.2.2 (fun k hk => .inr (by have : k = a := hk; have := HR2.out.2; omega))⟩
          have f1 := frozen_of_blk HV2.out.1 2
          have z1 := cell_of_blk HV2.out.1 2
          simp only [List.getElem?_toArray, List.getElem?_cons_succ, List.getElem?_cons_zero] at z1
          have HB2 : Hid ((w13.setCell ⟨V, 2, none⟩ (.string t2)).heap[V]? = some (.cells #[.string t1, .int .u64 ((i1 : Nat) : Int), .string t2, .slice none 0 0] 49 (0, 0)) ∧ DRd w1.heap.size (w13.setCell ⟨V, 2, none⟩ (.string t2)) a (dv3 Q.2).2 ∧ Keeps no w1 (w13.setCell ⟨V, 2, none⟩ (.string t2)) ∧ t2 = text (dv3 Q.2).1) := ⟨blk_set HV2.out.1 2 _, DRd.keeps H13.out.2.1 (keeps_set w13 V 2 _) (fun k hk e => by have e : k = V := e; have := HV1.out.2; omega), HV2.out.2.setCell (.inr HV1.out.2.2) _, H13.out.1⟩
          have HA2 : Hid (Keeps (fun b => b = a) wq (w13.setCell ⟨V, 2, none⟩ (.string t2))) := (HA1.out.trans H13.out.2.2).setCell (.inr HVq.out) _
          go_wp2_with fail
          generalize w13.setCell ⟨V, 2, none⟩ (.string t2) = w14 at HB2 HA2 ⊢
          clear f1 z1
          refine (dNum_any HB2.out.2.1 4 (by omega)).mono ?_
          rintro e w15 ⟨N3, rfl, H15⟩
          have hN3 : ((N3 : Nat) : Int) < 4294967296 := by have := H15.out.2.1; omega
          have HV3 : Hid (w15.heap[V]? = some (.cells #[.string t1, .int .u64 ((i1 : Nat) : Int), .string t2, .slice none 0 0] 49 (0, 0)) ∧ Keeps no w1 w15 ∧ DRd w1.heap.size w15 a (dv4 Q.2).2 ∧ N3 = (dv4 Q.2).1) := ⟨H15.out.2.2.2.at HB2.out.1 (fun e => by have e : V = a := e; have := HV1.out.2; omega), HB2.out.2.2.1.then H15.out.2.2.2 (fun k hk => .inr (by have : k = a := hk; have := HR2.out.2; omega)), H15.out.2.2.1, H15.out.1⟩
          have HA3 : Hid (Keeps (fun b => b = a) wq w15) := HA2.out.trans H15.out.2.2.2
          have HI1 : Hid (i1 = (dv2 Q.2).1 ∧ t2 = text (dv3 Q.2).1) := ⟨HB1.out.2.2.2, HB2.out.2.2.2⟩
          clear H10 H11 H13 H15 HB1 HB2 HV2 HA1 HA2 HK10 HK11 HaV
          go_upto_block 4 with fail
          go_cut [16] from 125 to 143 (fun _ wc => Hid (∃ ok nk ck, wc.heap[V]? = some (.cells #[.string t1, .int .u64 ((i1 : Nat) : Int), .string t2, .slice ok nk ck] 49 (0, 0)) ∧ nk = (dv5 Q.2).1.length ∧ Own TE wc ok ck (dv5 Q.2).1 ∧ New wq ok ∧ DRd w1.heap.size wc a (dv5 Q.2).2 ∧ Keeps (fun b => b = a) wq wc ∧ Keeps no w1 wc))
          case first =>
            go_wp2_with fail
            go_loopw [16] (fun i wr => ∃ (j3 I3 : Nat), i = .int .u64 ((I3 : Nat) : Int) ∧ I3 + j3 = N3 ∧ Hid (∃ ok nk ck, wr.heap[V]? = some (.cells #[.string t1, .int .u64 ((i1 : Nat) : Int), .string t2, .slice ok nk ck] 49 (0, 0)) ∧ nk = (dmany dkey j3 (dv4 Q.2).2).1.length ∧ Own TE wr ok ck (dmany dkey j3 (dv4 Q.2).2).1 ∧ New wq ok ∧ DRd w1.heap.size wr a (dmany dkey j3 (dv4 Q.2).2).2 ∧ Keeps (fun b => b = a) wq wr ∧ Keeps no w1 wr)) (fun i _ => (intOf i).toNat)
            case atStart => exact ⟨0, N3, rfl, by omega, none, 0, 0, HV3.out.1, rfl, own_nil _, new_none _, HV3.out.2.2.1, HA3.out, HV3.out.2.1⟩
            case round =>
              rename World => wr
              obtain ⟨j3, I3, rfl, hIj3, HU0⟩ := hrel
              obtain ⟨ok, nk, ck, HUa⟩ := HU0.out
              obtain ⟨R, hR⟩ : ∃ R, R = dmany dkey j3 (dv4 Q.2).2 := ⟨_, rfl⟩
              have HR5 : Hid (R = dmany dkey j3 (dv4 Q.2).2) := hR
              rw [← hR] at HUa
              have HU : Hid (wr.heap[V]? = some (.cells #[.string t1, .int .u64 ((i1 : Nat) : Int), .string t2, .slice ok nk ck] 49 (0, 0)) ∧ nk = R.1.length ∧ Own TE wr ok ck R.1 ∧ New wq ok ∧ DRd w1.heap.size wr a R.2 ∧ Keeps (fun b => b = a) wq wr ∧ Keeps no w1 wr) := HUa
              have HRl : Hid (R.1.length ≤ j3) := (show _ ≤ _ by rw [hR]; exact dmany_len dkey _ j3)
              clear HU0 HUa hR
              have hcell := HU.out.2.2.2.2.1.bad
              have HEND : Hid (I3 = 0 ∨ R.2.2 = true → ∃ ok nk ck, wr.heap[V]? = some (.cells #[.string t1, .int .u64 ((i1 : Nat) : Int), .string t2, .slice ok nk ck] 49 (0, 0)) ∧ nk = (dv5 Q.2).1.length ∧ Own TE wr ok ck (dv5 Q.2).1 ∧ New wq ok ∧ DRd w1.heap.size wr a (dv5 Q.2).2 ∧ Keeps (fun b => b = a) wq wr ∧ Keeps no w1 wr) := fun hc => by
                have e : dv5 Q.2 = R := by
                  unfold dv5
                  rw [← HV3.out.2.2.2, HR5.out]
                  rcases hc with h0 | h0
                  · rw [show N3 = j3 by omega]
                  · rw [HR5.out] at h0; exact dmany_stuck dkey _ j3 h0 N3 (by omega)
                rw [e]
                exact ⟨ok, nk, ck, HU.out⟩
              by_cases hI3 : I3 = 0
              · subst hI3
                clear hcell
                go_wp2_with fail
                go_meet
                case rel => exact HEND.out (.inl (by simp))
              · have HIJ3 : Hid (I3 + j3 = N3 ∧ 0 < I3) := ⟨hIj3, by omega⟩
                obtain ⟨z3, hz3⟩ : ∃ z3 : Int, z3 = ((I3 : Nat) : Int) := ⟨_, rfl⟩
                have hI3' : z3 > 0 := by omega
                have hI34 : z3 < 4294967296 := by omega
                rw [← hz3]
                have HZ3 : Hid (z3 = ((I3 : Nat) : Int)) := hz3
                clear hIj3 hI3 hz3
                cases hbad3 : R.2.2 with
                | true =>
                  rw [hbad3] at hcell
                  have HBd3 : Hid (R.2.2 = true) := hbad3
                  clear hbad3
                  go_wp2_with fail
                  go_meet
                  case rel => exact HEND.out (.inr HBd3.out)
                | false =>
                  rw [hbad3] at hcell
                  have HBd3 : Hid (dmany dkey (j3 + 1) (dv4 Q.2).2 = (R.1 ++ [(dkey R.2).1], (dkey R.2).2)) := (show _ = _ by rw [HR5.out] at hbad3 ⊢; exact dmany_step dkey _ j3 hbad3)
                  clear hbad3 HEND
                  go_upto_region 25 with fail
                  have HCL : Hid (∀ X : World, X.heap[V]? = some (.cells #[.string t1, .int .u64 ((i1 : Nat) : Int), .string t2, .slice ok nk ck] 49 (0, 0)) → X.cell? ⟨V, 3, none⟩ = some (.slice ok nk ck) ∧ X.frozen? ⟨V, 3, none⟩ = false) := fun X h => ⟨cell_of_blk h 3, frozen_of_blk h 3⟩
                  clear hcell
                  have HAR : Hid (z3 > 0 ∧ z3 < 4294967296 ∧ z > 0 ∧ z < 4294967296 ∧ ((i1 : Nat) : Int) < 18446744073709551616 ∧ ((N3 : Nat) : Int) < 4294967296) := ⟨hI3', hI34, hI', hI4, hi64, hN3⟩
                  have HWZ : Hid (IntKind.u64.wrap (z3 - 1) = z3 - 1) := (show _ = _ by unfold IntKind.wrap; simp [IntKind.signed, IntKind.bits]; omega)
                  clear hq4 hb0 hb4 h4' hc1 hc2 hcutA hnb h4 hg64 hN2 hI3' hI34 hI' hI4 hi64 hN3 hN1
                  have HX0 : Hid (wr.drew.heap[V]? = some (.cells #[.string t1, .int .u64 ((i1 : Nat) : Int), .string t2, .slice ok nk ck] 49 (0, 0)) ∧ Own TE wr.drew ok ck R.1 ∧ DRd w1.heap.size wr.drew a R.2 ∧ Keeps no wr wr.drew) := ⟨((Keeps.refl no wr).drew).at HU.out.1 id, HU.out.2.2.1.keepsN ((Keeps.refl no wr).drew), HU.out.2.2.2.2.1.go ((Keeps.refl no wr).drew), (Keeps.refl no wr).drew⟩
                  refine wp_region_held_drew (S := fun _ => True) (by kernel_rfl) ?_ (fun hHeld => ?_)
                  · trivial
                  refine wpAnyH_take (i := 0) (v := ?_) (by simp only [List.getElem?_toArray, List.getElem?_cons_succ, List.getElem?_cons_zero]; rfl) (by kernel_rfl) (by kernel_rfl) (by kernel_rfl) (by exact fun _ _ _ h => h) (Or.inl ⟨by rfl, ?_⟩) (by assumption) ?_
                  rotate_left
                  · (intro _ hSw; (try dsimp only at hSw); go_simp; (try with_reducible rfl))
                  try simp only [Act.put, List.setIfInBounds_toArray, List.set_cons_zero, List.set_cons_succ]
                  refine wpAnyH_take (i := 2) (v := ?_) (by simp only [List.getElem?_toArray, List.getElem?_cons_succ, List.getElem?_cons_zero]; rfl) (by kernel_rfl) (by kernel_rfl) (by kernel_rfl) (by exact fun _ _ _ h => h) (Or.inl ⟨by rfl, ?_⟩) (by assumption) ?_
                  rotate_left
                  · (intro _ hSw; (try dsimp only at hSw); go_simp; (try with_reducible rfl))
                  try simp only [Act.put, List.setIfInBounds_toArray, List.set_cons_zero, List.set_cons_succ]
                  generalize wr.drew = x0 at HX0 ⊢
                  refine wpAnyH_ready (rs := [1, 3]) (by kernel_rfl) (by simp) ?_
                  refine AllReadyH.cons (by simp only [List.getElem?_toArray, List.getElem?_cons_succ, List.getElem?_cons_zero]; rfl) (fun Kq hKq => ?_) (AllReadyH.cons (by simp only [List.getElem?_toArray, List.getElem?_cons_succ, List.getElem?_cons_zero]; rfl) (fun Kq hKq => ?_) AllReadyH.nil)
                  · ((first | have hz := (HCL.out _ HX2.out.1).1 | have hz := (HCL.out _ HX1.out.1).1 | have hz := (HCL.out _ HX0.out.1).1); go_simp; clear hz)
                    refine hKq.out _ _ ?_ (fun hHeldN => ?_)
                    · trivial
                    clear hKq Kq hHeld
                    have hHeld := hHeldN
                    clear hHeldN
                    refine wpAnyH_ready (rs := [3]) (by kernel_rfl) (by simp) ?_
                    refine AllReadyH.cons (by simp only [List.getElem?_toArray, List.getElem?_cons_succ, List.getElem?_cons_zero]; rfl) (fun Kq hKq => ?_) AllReadyH.nil
                    (go_simp; refine (dTxt_any HX0.out.2.2.1).mono ?_; rintro e x1 ⟨tk, rfl, hT⟩; have HX1 : Hid (x1.heap[V]? = some (.cells #[.string t1, .int .u64 ((i1 : Nat) : Int), .string t2, .slice ok nk ck] 49 (0, 0)) ∧ Own TE x1 ok ck R.1 ∧ tk = (dkey R.2).1 ∧ DRd w1.heap.size x1 a (dkey R.2).2 ∧ Keeps (fun b => b = a) wr x1) := ⟨hT.out.2.2.at HX0.out.1 (fun e => by have e : V = a := e; have := HV1.out.2; omega), HX0.out.2.1.read HX0.out.2.2.1 tagsR.2.2.1 hT.out.2.2, hT.out.1, hT.out.2.1, HX0.out.2.2.2.of_no.trans hT.out.2.2⟩; clear hT)
                    refine hKq.out _ _ ?_ (fun hHeldN => ?_)
                    · trivial
                    clear hKq Kq hHeld
                    have hHeld := hHeldN
                    clear hHeldN
                    refine wpAnyH_ready (rs := [4]) (by kernel_rfl) (by simp) ?_
                    refine AllReadyH.cons (by simp only [List.getElem?_toArray, List.getElem?_cons_succ, List.getElem?_cons_zero]; rfl) (fun Kq hKq => ?_) AllReadyH.nil
                    (go_simp; have HX2 : Hid ((x1.alloc (.cells #[.string tk] 9)).heap[V]? = some (.cells #[.string t1, .int .u64 ((i1 : Nat) : Int), .string t2, .slice ok nk ck] 49 (0, 0)) ∧ Own TE (x1.alloc (.cells #[.string tk] 9)) ok ck R.1 ∧ DRd w1.heap.size (x1.alloc (.cells #[.string tk] 9)) a (dkey R.2).2 ∧ Keeps (fun b => b = a) wr (x1.alloc (.cells #[.string tk] 9)) ∧ Row TE (x1.alloc (.cells #[.string tk] 9)) (some ⟨x1.heap.size, 0, none⟩) [tk]) := ⟨blk_alloc HX1.out.1 _, HX1.out.2.1.keepsN ((Keeps.refl no x1).alloc _), HX1.out.2.2.2.1.go ((Keeps.refl no x1).alloc _), HX1.out.2.2.2.2.alloc _, (own_one x1 tk).row⟩; generalize x1.alloc (.cells #[.string tk] 9) = x2 at HX2 ⊢; generalize x1.heap.size = g1 at HX2 ⊢)
                    refine hKq.out _ _ ?_ (fun hHeldN => ?_)
                    · trivial
                    clear hKq Kq hHeld
                    have hHeld := hHeldN
                    clear hHeldN
                    refine wpAnyH_ready (rs := [5]) (by kernel_rfl) (by simp) ?_
                    refine AllReadyH.cons (by simp only [List.getElem?_toArray, List.getElem?_cons_succ, List.getElem?_cons_zero]; rfl) (fun Kq hKq => ?_) AllReadyH.nil
                    (refine step_appX okT rfl (.tmp 137) (.tmp 140) rfl ok nk ck R.1 rfl HU.out.2.1 HX2.out.2.1 (some ⟨g1, 0, none⟩) 1 1 [tk] rfl rfl (fun e => by cases e) HX2.out.2.2.2.2 (by have := HRl.out; have := HIJ3.out; have := HAR.out; simp [TE]; omega) (by have := HRl.out; have := HIJ3.out; have := HAR.out; simp; omega) ?_; intro o3 c3 x3 ho3 hap3; have HX3 := (show Hid _ from key_push (nk := nk) rfl HX2.out.1 HX2.out.2.1 HX2.out.2.2.1 HX2.out.2.2.2.1 hap3 ho3 HU.out.2.2.2.1 HU.out.2.2.2.2.2.1 HU.out.2.2.2.2.2.2 HW.out.1.keep.size HVq.out HV1.out.2.1 HR2.out.2); clear ho3 hap3)
                    refine hKq.out _ _ ?_ (fun hHeldN => ?_)
                    · trivial
                    clear hKq Kq hHeld
                    have hHeld := hHeldN
                    clear hHeldN
                    refine wpAnyH_take (i := 6) (v := ?_) (by simp only [List.getElem?_toArray, List.getElem?_cons_succ, List.getElem?_cons_zero]; rfl) (by kernel_rfl) (by kernel_rfl) (by kernel_rfl) (by exact fun _ _ _ h => h) (Or.inl ⟨by rfl, ?_⟩) (by assumption) ?_
                    rotate_left
                    · (intro _ hSw; (try dsimp only at hSw); go_simp; (try with_reducible rfl))
                    try simp only [Act.put, List.setIfInBounds_toArray, List.set_cons_zero, List.set_cons_succ]
                    refine wpAnyH_ready (rs := [7]) (by kernel_rfl) (by simp) ?_
                    refine AllReadyH.cons (by simp only [List.getElem?_toArray, List.getElem?_cons_succ, List.getElem?_cons_zero]; rfl) (fun Kq hKq => ?_) AllReadyH.nil
                    (have hz := (HCL.out _ HX3.out.1); have hz1 := hz.1; have hz2 := hz.2; go_simp; clear hz hz1 hz2)
                    refine hKq.out _ _ ?_ (fun hHeldN => ?_)
                    · trivial
                    clear hKq Kq hHeld
                    have hHeld := hHeldN
                    clear hHeldN
                    refine wpAnyH_done (by kernel_rfl) ?_ _
                    clear hHeld
                    go_wp2_with fail
                    go_roundw
                    case rel =>
                      refine ⟨j3 + 1, I3 - 1, ?_, by have := HIJ3.out; omega, o3, nk + 1, c3, ?_⟩
                      · rw [HWZ.out]; congr 1; have := HZ3.out; have := HIJ3.out; have := HAR.out; omega
                      · rw [HBd3.out, ← HX1.out.2.2.1]
                        exact ⟨HX3.out.2.1, by rw [HU.out.2.1]; simp, HX3.out.2.2.1, HX3.out.2.2.2.1, HX3.out.2.2.2.2.1, HX3.out.2.2.2.2.2.1, HX3.out.2.2.2.2.2.2⟩
                    case measure => rw [HWZ.out]; have := HZ3.out; have := HIJ3.out; have := HAR.out; simp [intOf]; omega
                  · (go_simp; refine (dTxt_any HX0.out.2.2.1).mono ?_; rintro e x1 ⟨tk, rfl, hT⟩; have HX1 : Hid (x1.heap[V]? = some (.cells #[.string t1, .int .u64 ((i1 : Nat) : Int), .string t2, .slice ok nk ck] 49 (0, 0)) ∧ Own TE x1 ok ck R.1 ∧ tk = (dkey R.2).1 ∧ DRd w1.heap.size x1 a (dkey R.2).2 ∧ Keeps (fun b => b = a) wr x1) := ⟨hT.out.2.2.at HX0.out.1 (fun e => by have e : V = a := e; have := HV1.out.2; omega), HX0.out.2.1.read HX0.out.2.2.1 tagsR.2.2.1 hT.out.2.2, hT.out.1, hT.out.2.1, HX0.out.2.2.2.of_no.trans hT.out.2.2⟩; clear hT)
                    refine hKq.out _ _ ?_ (fun hHeldN => ?_)
                    · trivial
                    clear hKq Kq hHeld
                    have hHeld := hHeldN
                    clear hHeldN
                    refine wpAnyH_ready (rs := [1, 4]) (by kernel_rfl) (by simp) ?_
                    refine AllReadyH.cons (by simp only [List.getElem?_toArray, List.getElem?_cons_succ, List.getElem?_cons_zero]; rfl) (fun Kq hKq => ?_) (AllReadyH.cons (by simp only [List.getElem?_toArray, List.getElem?_cons_succ, List.getElem?_cons_zero]; rfl) (fun Kq hKq => ?_) AllReadyH.nil)
                    · ((first | have hz := (HCL.out _ HX2.out.1).1 | have hz := (HCL.out _ HX1.out.1).1 | have hz := (HCL.out _ HX0.out.1).1); go_simp; clear hz)
                      refine hKq.out _ _ ?_ (fun hHeldN => ?_)
                      · trivial
                      clear hKq Kq hHeld
                      have hHeld := hHeldN
                      clear hHeldN
                      refine wpAnyH_ready (rs := [4]) (by kernel_rfl) (by simp) ?_
                      refine AllReadyH.cons (by simp only [List.getElem?_toArray, List.getElem?_cons_succ, List.getElem?_cons_zero]; rfl) (fun Kq hKq => ?_) AllReadyH.nil
                      (go_simp; have HX2 : Hid ((x1.alloc (.cells #[.string tk] 9)).heap[V]? = some (.cells #[.string t1, .int .u64 ((i1 : Nat) : Int), .string t2, .slice ok nk ck] 49 (0, 0)) ∧ Own TE (x1.alloc (.cells #[.string tk] 9)) ok ck R.1 ∧ DRd w1.heap.size (x1.alloc (.cells #[.string tk] 9)) a (dkey R.2).2 ∧ Keeps (fun b => b = a) wr (x1.alloc (.cells #[.string tk] 9)) ∧ Row TE (x1.alloc (.cells #[.string tk] 9)) (some ⟨x1.heap.size, 0, none⟩) [tk]) := ⟨blk_alloc HX1.out.1 _, HX1.out.2.1.keepsN ((Keeps.refl no x1).alloc _), HX1.out.2.2.2.1.go ((Keeps.refl no x1).alloc _), HX1.out.2.2.2.2.alloc _, (own_one x1 tk).row⟩; generalize x1.alloc (.cells #[.string tk] 9) = x2 at HX2 ⊢; generalize x1.heap.size = g1 at HX2 ⊢)
                      refine hKq.out _ _ ?_ (fun hHeldN => ?_)
                      · trivial
                      clear hKq Kq hHeld
                      have hHeld := hHeldN
                      clear hHeldN
                      refine wpAnyH_ready (rs := [5]) (by kernel_rfl) (by simp) ?_
                      refine AllReadyH.cons (by simp only [List.getElem?_toArray, List.getElem?_cons_succ, List.getElem?_cons_zero]; rfl) (fun Kq hKq => ?_) AllReadyH.nil
                      (refine step_appX okT rfl (.tmp 137) (.tmp 140) rfl ok nk ck R.1 rfl HU.out.2.1 HX2.out.2.1 (some ⟨g1, 0, none⟩) 1 1 [tk] rfl rfl (fun e => by cases e) HX2.out.2.2.2.2 (by have := HRl.out; have := HIJ3.out; have := HAR.out; simp [TE]; omega) (by have := HRl.out; have := HIJ3.out; have := HAR.out; simp; omega) ?_; intro o3 c3 x3 ho3 hap3; have HX3 := (show Hid _ from key_push (nk := nk) rfl HX2.out.1 HX2.out.2.1 HX2.out.2.2.1 HX2.out.2.2.2.1 hap3 ho3 HU.out.2.2.2.1 HU.out.2.2.2.2.2.1 HU.out.2.2.2.2.2.2 HW.out.1.keep.size HVq.out HV1.out.2.1 HR2.out.2); clear ho3 hap3)
                      refine hKq.out _ _ ?_ (fun hHeldN => ?_)
                      · trivial
                      clear hKq Kq hHeld
                      have hHeld := hHeldN
                      clear hHeldN
                      refine wpAnyH_take (i := 6) (v := ?_) (by simp only [List.getElem?_toArray, List.getElem?_cons_succ, List.getElem?_cons_zero]; rfl) (by kernel_rfl) (by kernel_rfl) (by kernel_rfl) (by exact fun _ _ _ h => h) (Or.inl ⟨by rfl, ?_⟩) (by assumption) ?_
                      rotate_left
                      · (intro _ hSw; (try dsimp only at hSw); go_simp; (try with_reducible rfl))
                      try simp only [Act.put, List.setIfInBounds_toArray, List.set_cons_zero, List.set_cons_succ]
                      refine wpAnyH_ready (rs := [7]) (by kernel_rfl) (by simp) ?_
                      refine AllReadyH.cons (by simp only [List.getElem?_toArray, List.getElem?_cons_succ, List.getElem?_cons_zero]; rfl) (fun Kq hKq => ?_) AllReadyH.nil
                      (have hz := (HCL.out _ HX3.out.1); have hz1 := hz.1; have hz2 := hz.2; go_simp; clear hz hz1 hz2)
                      refine hKq.out _ _ ?_ (fun hHeldN => ?_)
                      · trivial
                      clear hKq Kq hHeld
                      have hHeld := hHeldN
                      clear hHeldN
                      refine wpAnyH_done (by kernel_rfl) ?_ _
                      clear hHeld
                      go_wp2_with fail
                      go_roundw
                      case rel =>
                        refine ⟨j3 + 1, I3 - 1, ?_, by have := HIJ3.out; omega, o3, nk + 1, c3, ?_⟩
                        · rw [HWZ.out]; congr 1; have := HZ3.out; have := HIJ3.out; have := HAR.out; omega
                        · rw [HBd3.out, ← HX1.out.2.2.1]
                          exact ⟨HX3.out.2.1, by rw [HU.out.2.1]; simp, HX3.out.2.2.1, HX3.out.2.2.2.1, HX3.out.2.2.2.2.1, HX3.out.2.2.2.2.2.1, HX3.out.2.2.2.2.2.2⟩
                      case measure => rw [HWZ.out]; have := HZ3.out; have := HIJ3.out; have := HAR.out; simp [intOf]; omega
                    · (go_simp; have HX2 : Hid ((x1.alloc (.cells #[.string tk] 9)).heap[V]? = some (.cells #[.string t1, .int .u64 ((i1 : Nat) : Int), .string t2, .slice ok nk ck] 49 (0, 0)) ∧ Own TE (x1.alloc (.cells #[.string tk] 9)) ok ck R.1 ∧ DRd w1.heap.size (x1.alloc (.cells #[.string tk] 9)) a (dkey R.2).2 ∧ Keeps (fun b => b = a) wr (x1.alloc (.cells #[.string tk] 9)) ∧ Row TE (x1.alloc (.cells #[.string tk] 9)) (some ⟨x1.heap.size, 0, none⟩) [tk]) := ⟨blk_alloc HX1.out.1 _, HX1.out.2.1.keepsN ((Keeps.refl no x1).alloc _), HX1.out.2.2.2.1.go ((Keeps.refl no x1).alloc _), HX1.out.2.2.2.2.alloc _, (own_one x1 tk).row⟩; generalize x1.alloc (.cells #[.string tk] 9) = x2 at HX2 ⊢; generalize x1.heap.size = g1 at HX2 ⊢)
                      refine hKq.out _ _ ?_ (fun hHeldN => ?_)
                      · trivial
                      clear hKq Kq hHeld
                      have hHeld := hHeldN
                      clear hHeldN
                      refine wpAnyH_ready (rs := [1]) (by kernel_rfl) (by simp) ?_
                      refine AllReadyH.cons (by simp only [List.getElem?_toArray, List.getElem?_cons_succ, List.getElem?_cons_zero]; rfl) (fun Kq hKq => ?_) AllReadyH.nil
                      ((first | have hz := (HCL.out _ HX2.out.1).1 | have hz := (HCL.out _ HX1.out.1).1 | have hz := (HCL.out _ HX0.out.1).1); go_simp; clear hz)
                      refine hKq.out _ _ ?_ (fun hHeldN => ?_)
                      · trivial
                      clear hKq Kq hHeld
                      have hHeld := hHeldN
                      clear hHeldN
                      refine wpAnyH_ready (rs := [5]) (by kernel_rfl) (by simp) ?_
                      refine AllReadyH.cons (by simp only [List.getElem?_toArray, List.getElem?_cons_succ, List.getElem?_cons_zero]; rfl) (fun Kq hKq => ?_) AllReadyH.nil
                      (refine step_appX okT rfl (.tmp 137) (.tmp 140) rfl ok nk ck R.1 rfl HU.out.2.1 HX2.out.2.1 (some ⟨g1, 0, none⟩) 1 1 [tk] rfl rfl (fun e => by cases e) HX2.out.2.2.2.2 (by have := HRl.out; have := HIJ3.out; have := HAR.out; simp [TE]; omega) (by have := HRl.out; have := HIJ3.out; have := HAR.out; simp; omega) ?_; intro o3 c3 x3 ho3 hap3; have HX3 := (show Hid _ from key_push (nk := nk) rfl HX2.out.1 HX2.out.2.1 HX2.out.2.2.1 HX2.out.2.2.2.1 hap3 ho3 HU.out.2.2.2.1 HU.out.2.2.2.2.2.1 HU.out.2.2.2.2.2.2 HW.out.1.keep.size HVq.out HV1.out.2.1 HR2.out.2); clear ho3 hap3)
                      refine hKq.out _ _ ?_ (fun hHeldN => ?_)
                      · trivial
                      clear hKq Kq hHeld
                      have hHeld := hHeldN
                      clear hHeldN
                      refine wpAnyH_take (i := 6) (v := ?_) (by simp only [List.getElem?_toArray, List.getElem?_cons_succ, List.getElem?_cons_zero]; rfl) (by kernel_rfl) (by kernel_rfl) (by kernel_rfl) (by exact fun _ _ _ h => h) (Or.inl ⟨by rfl, ?_⟩) (by assumption) ?_
                      rotate_left
                      · (intro _ hSw; (try dsimp only at hSw); go_simp; (try with_reducible rfl))
                      try simp only [Act.put, List.setIfInBounds_toArray, List.set_cons_zero, List.set_cons_succ]
                      refine wpAnyH_ready (rs := [7]) (by kernel_rfl) (by simp) ?_
                      refine AllReadyH.cons (by simp only [List.getElem?_toArray, List.getElem?_cons_succ, List.getElem?_cons_zero]; rfl) (fun Kq hKq => ?_) AllReadyH.nil
                      (have hz := (HCL.out _ HX3.out.1); have hz1 := hz.1; have hz2 := hz.2; go_simp; clear hz hz1 hz2)
                      refine hKq.out _ _ ?_ (fun hHeldN => ?_)
                      · trivial
                      clear hKq Kq hHeld
                      have hHeld := hHeldN
                      clear hHeldN
                      refine wpAnyH_done (by kernel_rfl) ?_ _
                      clear hHeld
                      go_wp2_with fail
                      go_roundw
                      case rel =>
                        refine ⟨j3 + 1, I3 - 1, ?_, by have := HIJ3.out; omega, o3, nk + 1, c3, ?_⟩
                        · rw [HWZ.out]; congr 1; have := HZ3.out; have := HIJ3.out; have := HAR.out; omega
                        · rw [HBd3.out, ← HX1.out.2.2.1]
                          exact ⟨HX3.out.2.1, by rw [HU.out.2.1]; simp, HX3.out.2.2.1, HX3.out.2.2.2.1, HX3.out.2.2.2.2.1, HX3.out.2.2.2.2.2.1, HX3.out.2.2.2.2.2.2⟩
                      case measure => rw [HWZ.out]; have := HZ3.out; have := HIJ3.out; have := HAR.out; simp [intOf]; omega
          case rest =>
          rename World => w16
          obtain ⟨ok, nk, ck, HUa⟩ := hcut.out
          have HU : Hid (w16.heap[V]? = some (.cells #[.string t1, .int .u64 ((i1 : Nat) : Int), .string t2, .slice ok nk ck] 49 (0, 0)) ∧ nk = (dv5 Q.2).1.length ∧ Own TE w16 ok ck (dv5 Q.2).1 ∧ New wq ok ∧ DRd w1.heap.size w16 a (dv5 Q.2).2 ∧ Keeps (fun b => b = a) wq w16 ∧ Keeps no w1 w16) := HUa
          clear hcut HUa HV3 HA3
          have HLS : Hid (Own LE w16 lo lc LL) := HW.out.2.2.read HW.out.1.rd tagsR.1 HU.out.2.2.2.2.2.1
          obtain ⟨y0, y1, y2, y3⟩ := cells4 HU.out.1
          have HC2 : Hid (∀ X : World, Keeps no w16 X → X.cell? ⟨V, 1, none⟩ = some (.int .u64 ((i1 : Nat) : Int)) ∧ X.cell? ⟨V, 0, none⟩ = some (.string t1)) := fun X h => ⟨h.cellN y1, h.cellN y0⟩
          go_upto_region 27 with fail
          clear y0 y1 y2 y3
          have HB17 : Hid ((w16.alloc (.cells #[.string t1, .int .u64 ((i1 : Nat) : Int), .string t2, .slice ok nk ck, .int .i64 (-1)] 51)).heap[w16.heap.size]? = some (.cells #[.string t1, .int .u64 ((i1 : Nat) : Int), .string t2, .slice ok nk ck, .int .i64 (-1)] 51 (0, 0))) := blk_new w16 _
          have HK17 : Hid (Keeps no w16 (w16.alloc (.cells #[.string t1, .int .u64 ((i1 : Nat) : Int), .string t2, .slice ok nk ck, .int .i64 (-1)] 51))) := (Keeps.refl no w16).alloc _
          generalize w16.alloc (.cells #[.string t1, .int .u64 ((i1 : Nat) : Int), .string t2, .slice ok nk ck, .int .i64 (-1)] 51) = w17 at HB17 HK17 ⊢
          obtain ⟨P5, hP5⟩ : ∃ P5, P5 = w16.heap.size := ⟨_, rfl⟩
          rw [← hP5] at HB17 ⊢
          have HP5 : Hid (P5 = w16.heap.size) := hP5
          obtain ⟨LX, hLX⟩ : ∃ LX, LX = lastIn LL t1 := ⟨_, rfl⟩
          have HLX : Hid (LX = lastIn LL t1) := hLX
          clear hP5 hLX
          obtain ⟨C, hC⟩ : ∃ C : Bool, C = decide (i1 < LX) := ⟨_, rfl⟩
          have HCC : Hid (C = decide (i1 < LX)) := hC
          clear hC
          go_cut [151] from 145 to 150 (fun v wc => v = .bool C ∧ Hid (Keeps no w17 wc))
          case first =>
            have HAR : Hid (z > 0 ∧ z < 4294967296 ∧ ((i1 : Nat) : Int) < 18446744073709551616 ∧ ((N3 : Nat) : Int) < 4294967296) := ⟨hI', hI4, hi64, hN3⟩
            clear hq4 hb0 hb4 h4' hc1 hc2 hcutA hnb h4 hg64 hN2 hI' hI4 hi64 hN3 hN1
            go_region_held3 (fun X => X.cell? ⟨V, 1, none⟩ = some (.int .u64 ((i1 : Nat) : Int)) ∧ X.cell? ⟨V, 0, none⟩ = some (.string t1)) (first | exact HC2.out _ HK17.out.drew | exact HC2.out _ HK17.out) ((go_at_call 123; refine (dLastIn_any _ lo ln lc LL t1 HLL.out.1 (by have := HLL.out.2.1; omega) ((HLS.out.keepsN HK17.out).keepsN ((Keeps.refl no w17).drew)).sl).mono ?_; rw [← HLX.out]; rintro e x1 ⟨rfl, hx⟩; subst x1))
            go_wp2_with fail
            go_meet
            case rel => exact ⟨by rw [HCC.out], (Keeps.refl no w17).drew⟩
          case rest =>
          obtain ⟨rfl, HK18⟩ := hcut
          rename World => w18
          have HB18 : Hid (w18.heap[P5]? = some (.cells #[.string t1, .int .u64 ((i1 : Nat) : Int), .string t2, .slice ok nk ck, .int .i64 (-1)] 51 (0, 0)) ∧ Keeps no w16 w18) := ⟨HK18.out.at HB17.out id, HK17.out.trans HK18.out⟩
          clear HB17 HK17 HK18 HC2
          obtain ⟨sv, hsv⟩ : ∃ sv, sv = stOf now LL (t1, i1) := ⟨_, rfl⟩
          have HSV : Hid (sv = stOf now LL (t1, i1)) := hsv
          clear hsv
          go_upto_if 151 with fail
          go_cut [151] from 152 to 153 (fun _ wc => Hid (wc.heap[P5]? = some (.cells #[.string t1, .int .u64 ((i1 : Nat) : Int), .string t2, .slice ok nk ck, .int .i64 sv] 51 (0, 0)) ∧ Keeps no w16 wc))
          case first =>
            clear hq4 hb0 hb4 h4' hc1 hc2 hcutA hnb h4 hg64 hN2 hI' hI4 hi64 hN3 hN1
            cases hCB : C with
            | true =>
              have HS1 : Hid (sv = now) := (show _ = _ by have h9 := HCC.out; rw [hCB] at h9; rw [HSV.out]; unfold stOf; rw [if_pos (by rw [← HLX.out]; exact of_decide_eq_true h9.symm)])
              have f4 := frozen_of_blk HB18.out.1 4
              have z4 := cell_of_blk HB18.out.1 4
              simp only [List.getElem?_toArray, List.getElem?_cons_succ, List.getElem?_cons_zero] at z4
              clear hCB
              go_wp2_with fail
              go_meet
              case rel => exact ⟨by rw [HS1.out]; exact blk_set HB18.out.1 4 _, HB18.out.2.setCell (.inr (by rw [HP5.out]; exact Nat.le_refl _)) _⟩
            | false =>
              have HS1 : Hid (sv = -1) := (show _ = _ by have h9 := HCC.out; rw [hCB] at h9; rw [HSV.out]; unfold stOf; rw [if_neg (by rw [← HLX.out]; exact of_decide_eq_false h9.symm)])
              clear hCB
              go_wp2_with fail
              go_meet
              case rel => exact ⟨by rw [HS1.out]; exact HB18.out.1, HB18.out.2⟩
          case rest =>
          rename World => w19
          have HB19 := hcut
          clear hcut HB18
          obtain ⟨y0, y1, y2, y3, y4⟩ := cells5 HB19.out.1
          obtain ⟨x, hx⟩ : ∃ x : KV, x = ⟨(t1, i1), t2, ok, ck, (dv5 Q.2).1, sv⟩ := ⟨_, rfl⟩
          have HXX : Hid (x = ⟨(t1, i1), t2, ok, ck, (dv5 Q.2).1, sv⟩) := hx
          have HROW : Hid (Row KE (w19.alloc (.cells #[.string t1, .int .u64 ((i1 : Nat) : Int), .string t2, .slice ok nk ck, .int .i64 sv] 51)) (some ⟨w19.heap.size, 0, none⟩) [x]) := by
            have := (own_oneK w19 x).row
            rw [hx] at this ⊢
            simp only at this
            rw [← HU.out.2.1] at this
            exact this
          have HKO : Hid (Own KE (w19.alloc (.cells #[.string t1, .int .u64 ((i1 : Nat) : Int), .string t2, .slice ok nk ck, .int .i64 sv] 51)) o c kz) := HW.out.1.own.read HW.out.1.rd tagsR.2.1 ((HU.out.2.2.2.2.2.1.trans HB19.out.2.of_no).alloc _)
          have HKL : Hid (kz.length ≤ 4294967296) := (show _ ≤ _ by
            have e := congrArg List.length HW.out.1.eq
            unfold stk at e
            simp only [List.length_map] at e
            have := HLn.out; have := HIJ.out; omega)
          clear hx
          go_wp2_with (at_builtin; refine wpList_app okK rfl _ _ rfl _ _ _ kz rfl HW.out.2.1 HKO.out _ _ _ [x] rfl rfl (fun h => by cases h) HROW.out (by have := HKL.out; simp [KE]; omega) (by have := HKL.out; simp; omega) ?_; intro o1 c1 w21 ho21 hap21)
          go_roundw
          case rel =>
            refine ⟨j + 1, I - 1, o1, n + 1, c1, rfl, ?_, by have := HIJ.out; omega, kz ++ [x], ?_⟩
            · congr 1; have := HZ.out; have := HIJ.out; omega
            · have hp := HW.out.1.push (st := (dver Q.2).2) (v := (dver Q.2).1) (x := x) (HU.out.2.2.2.2.2.1.trans HB19.out.2.of_no) (HU.out.2.2.2.2.2.2.trans HB19.out.2) (HU.out.2.2.2.2.1.go HB19.out.2) (by rw [HXX.out]; exact HU.out.2.2.1.keepsN HB19.out.2) (by rw [HXX.out]; exact HU.out.2.2.2.1) (by rw [HXX.out, HSV.out, HT1.out, HI1.out.1, HI1.out.2]; rfl) HW.out.2.2 hap21 ho21
              rw [HBd.out]
              exact ⟨hp.1, by rw [HW.out.2.1]; simp, hp.2⟩
          case measure => simp [intOf]; omega
  case rest =>
  obtain ⟨ko, kn, kc, rfl, HKZ0⟩ := hcut
  rename World => w20
  obtain ⟨kz, HKZa⟩ := HKZ0.out
  have HKZ : Hid (KzD w1 a now LL kz ko kc w20 (dVs B) ∧ kn = kz.length ∧ Own LE w20 lo lc LL) := HKZa
  clear HKZ0 HKZa
  have hbad := HKZ.out.1.rd.bad
  obtain ⟨uo, uc, hleft⟩ := HKZ.out.1.rd.left
  have HNK : Hid (Keeps no w w20) := HK0.out.trans HKZ.out.1.keep
  have HG64 : Hid (g < 18446744073709551616) := (show _ < _ by omega)
  clear HN2 HK9 HR2 hN2 hN1 hq4 hb0 hb4 h4' hc1 hc2 hcutA hnb h4 hg64
  cases hb2 : (dVs B).2.2 with
  | true =>
    rw [hb2] at hbad
    have HX : Hid (¬ DOk now b) := fun h => by have h9 := h.all; rw [← HBB.out] at h9; rw [h9] at hb2; cases hb2
    clear hb2 hleft
    go_wp2_with fail
    go_ret3
    exact .inr (.inr (.inl ⟨HT.out, HST.out, HX.out, rfl, HNK.out⟩))
  | false =>
  rw [hb2] at hbad
  obtain ⟨m, hm⟩ : ∃ m, m = (dVs B).2.1.length := ⟨_, rfl⟩
  rw [← hm] at hleft
  by_cases hm0 : m = 0
  case neg =>
    have hmp : (m : Int) > 0 := by omega
    have HX : Hid (¬ DOk now b) := fun h => by
      have h9 := h.all
      rw [← HBB.out] at h9
      rw [h9] at hm
      exact hm0 hm
    clear hb2 hm hm0
    go_wp2_with fail
    go_ret3
    exact .inr (.inr (.inl ⟨HT.out, HST.out, HX.out, rfl, HNK.out⟩))
  case pos =>
  subst hm0
  have HEND : Hid ((dVs B).2 = ([], false)) := (show _ = _ from Prod.ext (List.eq_nil_of_length_eq_zero hm.symm) hb2)
  clear hm hb2
  have HBY : Hid (∀ c ∈ B, c < 256) := fun c hc => bodyO_byt HB.out.2.2.2 c (by rw [← HBB.out]; exact hc)
  have HBL : Hid (B.length ≤ 140737488351232) := (show _ ≤ _ by have := HSL.out.2; have := HB.out; have := HQ.out; omega)
  have HVL : Hid (kz.length = (dVs B).1.length ∧ (dVs B).1.length < 4294967296) := ⟨by
    have e := congrArg List.length HKZ.out.1.eq
    unfold stk at e
    simpa only [List.length_map] using e, dVs_len B HBY.out⟩
  have HSMX : Hid (∀ x ∈ kz, Sm B.length x.vt) := fun x hx => by
    have e : x.key ∈ (stk now LL (dVs B).1).map KV.key := by rw [← HKZ.out.1.eq]; exact List.mem_map.2 ⟨x, hx, rfl⟩
    obtain ⟨y, hy, hyx⟩ := List.mem_map.1 e
    unfold stk at hy
    obtain ⟨v, hv, rfl⟩ := List.mem_map.1 hy
    have := dVs_fw B HBY.out v hv
    have e2 : x.vt = v := by
      have := congrArg Prod.fst hyx
      exact this.symm
    rw [e2]; exact this
  have HIN : Hid (InD w20 kz) := ⟨fun x hx => by
    have h9 := HSMX.out x hx
    have := HBL.out
    exact ⟨(HKZ.out.1.key x hx).1.sl, by have := h9.2.2.2.1; simp only [KV.vt] at this; omega, h9.1, by have := h9.2.1; simp only [KV.vt] at this; omega, by have := h9.2.2.1; simp only [KV.vt] at this; omega, fun t ht => by have := h9.2.2.2.2 t ht; omega⟩⟩
  have HOKL : Hid (docLoad kz LL = okLoad (stk now LL (dVs B).1) LL) := (show _ = _ by rw [docLoad_eq, okLoad_congr HKZ.out.1.eq])
  go_wp2_with fail
  refine (rLoad_any w20 ko kn kc kz lo ln lc LL HKZ.out.2.1 HLL.out.1 (by have := HVL.out; omega) (by have := HLL.out.2.1; omega) HKZ.out.1.own.sl HKZ.out.2.2.sl HIN.out).mono ?_
  intro e w21 hld
  clear hbad hleft
  cases hD : docLoad kz LL with
  | false =>
    obtain ⟨rfl, hk21⟩ := hld.2 hD
    have HX : Hid (¬ DOk now b) := fun h => by
      have h9 := h.load
      rw [← HBB.out, ← HLQ.out, ← HOKL.out, hD] at h9
      cases h9
    have HK21 : Hid (Keeps no w w21) := HNK.out.trans hk21
    clear hld hD hk21
    go_wp2_with fail
    go_ret3
    exact .inr (.inr (.inl ⟨HT.out, HST.out, HX.out, rfl, HK21.out⟩))
  | true =>
  obtain ⟨p, rfl, HP⟩ := hld.1 hD
  have HOK : Hid (okLoad (stk now LL (dVs B).1) LL = true) := (show _ = _ by rw [← HOKL.out]; exact hD)
  clear hld hD
  obtain ⟨S, hS⟩ : ∃ S, S = loadS (stk now LL (dVs B).1) LL := ⟨_, rfl⟩
  have HSS : Hid (S = loadS (stk now LL (dVs B).1) LL) := hS
  have HTL : Hid (Tld S LL (stk now LL (dVs B).1)) := by rw [hS]; exact load_tld HOK.out
  have HOS : Hid (Ok S) := by
    rw [hS]
    refine okLoad_ok HOK.out (fun x hx => ?_)
    unfold stk at hx
    obtain ⟨v, hv, rfl⟩ := List.mem_map.1 hx
    exact (dVs_fw B HBY.out v hv).1
  have HRM : Hid (Rm w p S 4294967296 w21) := by
    obtain ⟨oK, cK, oL, cL, ks', h1, h2, h3⟩ := HP.out
    refine ⟨oK, kn, cK, oL, ln, cL, ks', LL, h1.mono (fun b hb => Nat.le_trans HNK.out.size hb), ?_, ?_, HOS.out, HNK.out.trans h3⟩
    · exact rl_key HTL.out (HKZ.out.1.eq.symm.trans (key_of_eq h2))
    · rw [← h2.1]; have := HVL.out; omega
  clear hS HP HIN HSMX
  have HGW := wrap_gen (v := g) HG64.out
  obtain ⟨zg, hzg⟩ : ∃ zg, zg = wrap64 ((g : Nat) : Int) := ⟨_, rfl⟩
  rw [← hzg] at HGW
  have HZG : Hid (decide (1 ≤ zg) = genOk g ∧ (genOk g = true → zg = ((g : Nat) : Int))) := HGW
  have HZG2 : Hid (zg = wrap64 ((g : Nat) : Int)) := hzg
  clear HGW hzg
  go_upto_region 35 with fail
  rw [← HZG2.out]
  cases hgk : genOk g with
  | false =>
    have HX : Hid (¬ DOk now b) := fun h => by
      have h9 := h.gen
      rw [← HBB.out, ← HG.out, hgk] at h9
      cases h9
    have hz1 : zg < 1 := by
      have h9 := HZG.out.1
      rw [hgk, decide_eq_false_iff_not] at h9
      omega
    clear hgk
    go_wp2_with fail
    refine (dBuild_arg w21 zg _ hz1).mono ?_
    rintro e w22 ⟨rfl, hw22⟩
    subst w22
    go_wp2_with fail
    go_ret3
    exact .inr (.inr (.inl ⟨HT.out, HST.out, HX.out, rfl, HRM.out.keep⟩))
  | true =>
  have HGG : Hid (genOk g = true ∧ 1 ≤ g ∧ g ≤ 9223372036854775807) := ⟨hgk, by unfold genOk at hgk; rw [decide_eq_true_eq] at hgk; exact hgk⟩
  have hzz := HZG.out.2 hgk
  clear hgk HZG HZG2
  subst hzz
  have HUN : Hid (∀ ls ks, Tld S ls ks → snap g ls (vts ks) = snap g LL (dVs B).1) := fun ls ks h => by
    rw [tld_ls (fun _ => rfl) h.la HTL.out.la, tld_vs (Sim.refl S) h HTL.out, stk_vts]
  have HSNL : Hid ((snap g LL (dVs B).1).length ≤ 140737488351236) := (show _ ≤ _ by
    have e := cn_all B HEND.out
    rw [← HLQ.out] at e
    rw [snap_length, snBody_length]
    have := HBL.out
    omega)
  go_wp2_with fail
  refine (dBuildL_any HRM.out g HGG.out.2.1 HGG.out.2.2 (fun ls ks h => by rw [HUN.out ls ks h]; have := HSNL.out; omega)).mono ?_
  rintro e w22 ⟨o22, n22, c22, bs, rfl, H22⟩
  have HBS : Hid (bs = snap g LL (dVs B).1) := (show _ = _ by
    obtain ⟨l9, k9, ht9, e9⟩ := H22.out.1
    rw [e9]; exact HUN.out l9 k9 ht9)
  have HK22 : Hid (Keeps no w w22) := HRM.out.keep.trans H22.out.2.2.2.2.2
  have h1 := run_text w22 o22 bs n22 c22 H22.out.2.1 (H22.out.2.2.1.row H22.out.2.2.2.1 (by have := H22.out.2.2.2.2.1; omega))
  have h2 := run_text w22 (some ⟨bb, off, none⟩) b n c HB.out.1 (HB.out.2.1.keepsN HK22.out).row
  have HE : Hid (((text bs).toList == (text b).toList) = decide (bs = b)) := by
    show _ = _
    rw [tx_eq]
    by_cases h : bs = b
    · subst h; simp
    · have : ¬ text bs = text b := fun e => h (by rw [← nats_text bs H22.out.2.2.2.1, ← nats_text b HB.out.2.2.2, e])
      rw [decide_eq_false h, decide_eq_false this]
  generalize text bs = ta at h1 HE
  generalize text b = tb at h2 HE
  by_cases hbb : bs = b
  case neg =>
    have hE : (ta.toList == tb.toList) = false := by rw [HE.out, decide_eq_false hbb]
    have HX : Hid (¬ DOk now b) := fun h => hbb (by
      have h9 := h.eq
      rw [← HBB.out, ← HG.out, ← HLQ.out, ← HBS.out] at h9
      exact h9.symm)
    clear hbb HE
    go_wp2_with fail
    go_ret3
    exact .inr (.inr (.inl ⟨HT.out, HST.out, HX.out, rfl, HK22.out⟩))
  case pos =>
    have hE : (ta.toList == tb.toList) = true := by rw [HE.out, decide_eq_true hbb]
    have HX : Hid (DOk now b) := ⟨by rw [← HBB.out]; exact HEND.out, by rw [← HBB.out, ← HLQ.out]; exact HOK.out, by rw [← HBB.out, ← HG.out]; exact HGG.out.1, by rw [← HBB.out, ← HG.out, ← HLQ.out, ← HBS.out]; exact hbb.symm⟩
    clear hbb HE
    go_wp2_with fail
    go_ret3
    refine .inr (.inr (.inr ⟨HT.out, HST.out, HX.out, p, ?_, ?_, ?_, ?_, ?_⟩))
    · rw [← HBB.out, ← HG.out]; rfl
    · rw [← HBB.out, ← HLQ.out]; exact HLL.out.2.1
    · rw [← HBB.out]; exact HVL.out.2
    · rw [← HBB.out, ← HLQ.out, ← HSS.out]; exact HOS.out
    · rw [← HBB.out, ← HLQ.out, ← HSS.out]; exact HRM.out.go H22.out.2.2.2.2.2
end Go.Proofs.YtbnohdgdadfjlaaGreatDoor
