import Derived.Test.YtbnohdgdadfjlaaGreatDoorKp
/- What all the laws call: copies, sums, the chapter's examples. -/
namespace Go.Proofs.YtbnohdgdadfjlaaGreatDoor
open Go.RowKit Go.Maps Go.Sort Orl Pk
set_option linter.unusedVariables false
set_option linter.unusedSimpArgs false

theorem Fresh.new {w0 w w' : World} {oa o' : Option Addr} (h : Fresh w oa o') (hk : Keeps (inO oa) w w') (hn : New w0 oa) (hk0 : Keeps no w0 w) : New w0 o' ∧ Keeps no w0 w' := by
  refine ⟨?_, hk0.then hk (fun i hi => .inr (hn i hi))⟩
  rcases h with rfl | ⟨g, rfl, hg⟩
  · exact hn
  · rintro k ⟨x, e, rfl⟩; cases e; exact Nat.le_trans hk0.size hg
/-- a copy of the law's own -/
def OwnTo (w : World) (bs : List Nat) (e : Ending) (w' : World) : Prop := ∃ o n c, e = .returned (.slice o n c) ∧ Hid (n = bs.length ∧ Owns w' o c bs ∧ New w o ∧ Keeps no w w')
theorem own_any (w : World) (a : Option Addr) (n c : Nat) (bs : List Nat) (hn : n = bs.length) (hb : bs.length ≤ 140737488355328) (hs : BSl w a c bs) : Calls Tryz.prog 11 #[.slice a n c] w (OwnTo w bs) := by
  have HN : Hid (n = bs.length ∧ bs.length ≤ 140737488355328) := ⟨hn, hb⟩
  have HS : Hid (BSl (w.alloc (.cells #[] 5)) a c bs) := hs.keepsN ((Keeps.refl no w).alloc _)
  clear hn hb hs
  go_enter Tryz.func11, Tryz.ntmps11
  go_wp2_with (at_builtin; go_must (refine wpList_appB rfl _ _ rfl (some ⟨w.heap.size, 0, none⟩) 0 0 [] rfl rfl (owns_new w) a n c bs rfl HN.out.1 HS.out.nil HS.out.row (by have := HN.out; omega) ?_); intro o' c' w' ho hfr hk)
  go_ret
  have := hfr.new hk (w0 := w) (new_fresh w _ (Nat.le_refl _) 0) ((Keeps.refl no w).alloc _)
  exact ⟨o', _, c', rfl, by simp [HN.out.1], ho, this.1, this.2⟩
theorem same_bytes (w : World) (oa : Option Addr) (na ca : Nat) (ob : Option Addr) (nb cb : Nat) (a b : List Nat) (hna : na = a.length) (hnb : nb = b.length) (ha : BRow w oa a) (hb : BRow w ob b) :
    Calls Tryz.prog 13 #[.slice oa na ca, .slice ob nb cb] w fun e w' => e = .returned (.bool (decide (a = b))) ∧ w' = w := by
  have h1 := run_text w oa a na ca hna ha
  have h2 := run_text w ob b nb cb hnb hb
  have HE : Hid (((text a).toList == (text b).toList) = decide (a = b)) := by
    show _ = _
    rw [tx_eq]
    by_cases h : a = b
    · subst h; simp
    · have : ¬ text a = text b := fun e => h (by rw [← nats_text a ha.1, ← nats_text b hb.1, e])
      rw [decide_eq_false h, decide_eq_false this]
  generalize text a = ta at h1 HE
  generalize text b = tb at h2 HE
  clear hna hnb
  go_enter Tryz.func13, Tryz.ntmps13
  go_wp2
  go_ret
  refine ⟨?_, rfl⟩
  rw [← HE.out]
  rfl
/-! ### literals -/
theorem own_lit {α : Type} {E : El α} (hE : E.Ok) {w : World} {b : Nat} {xs : List α} {cur : Array Value} (h : w.heap[b]? = some (.cells cur E.e (0, 0))) (hc : cur.toList = E.cells xs) (hl : xs.length ≤ 1000) {n : Nat} (hn : n = xs.length) : Own E w (some ⟨b, 0, none⟩) n xs := by
  have hsz : cur.size = xs.length * E.k := by
    have := congrArg List.length hc
    rw [cells_length hE] at this
    simpa using this
  subst hn
  refine own_of_shape hE h (Nat.le_refl _) (by unfold maxLen; omega) hsz ?_
  rw [hc, List.take_of_length_le]
  rw [cells_length hE]
  exact Nat.le_refl _
def ExTo (w : World) (e : Ending) (w' : World) : Prop := ∃ o c l, e = .returned (.slice o 2 c) ∧ Hid (l.length = 2 ∧ Own OE w' o c l ∧ OkL w' l Kw.L2 ∧ Keeps no w w' ∧ (∀ v ∈ l, ∀ k, inO v.ap k ∨ inO v.ak k → ¬ inO o k) ∧ New w o)
theorem okop_put {W : World} {i : Nat} {ps : List Pr} {keys : List Tx} {bp bk : Nat} {cp ck : Array Value} (hi : i < 18446744073709551616) (hp : W.heap[bp]? = some (.cells cp 70 (0, 0))) (hcp : cp.toList = PE.cells ps) (hk : W.heap[bk]? = some (.cells ck 9 (0, 0))) (hck : ck.toList = TE.cells keys) (lp : ps.length ≤ 10) (lk : keys.length ≤ 10) (zp : ∀ z ∈ ps, z.2.size ≤ 10) (zk : ∀ z ∈ keys, z.size ≤ 10) {n m : Nat} (hn : n = ps.length) (hm : m = keys.length) :
    OkOp W ⟨1, i, e0, some ⟨bp, 0, none⟩, n, n, some ⟨bk, 0, none⟩, m, m, 0⟩ ⟨1, i, e0, ps, keys, 0⟩ :=
  ⟨rfl, rfl, rfl, rfl, hn, hm, hi, (show e0.size ≤ 140737488351232 by decide), (own_lit okP hp hcp (by omega) hn).sl, (own_lit okT hk hck (by omega) hm).sl, fun z h => Nat.le_trans (zp z h) (by decide), fun z h => Nat.le_trans (zk z h) (by decide), by show ps.length ≤ _; omega, by show keys.length ≤ _; omega⟩
theorem okop_com {W : World} {i : Nat} (hi : i < 18446744073709551616) : OkOp W ⟨2, i, e0, none, 0, 0, none, 0, 0, 0⟩ ⟨2, i, e0, [], [], 0⟩ :=
  ⟨rfl, rfl, rfl, rfl, rfl, rfl, hi, (show e0.size ≤ 140737488351232 by decide), (own_nil W).sl, (own_nil W).sl, (fun z h => by cases h), (fun z h => by cases h), by simp, by simp⟩
set_option maxRecDepth 10000 in
theorem example_any (w : World) : Calls Tryz.prog 26 #[] w (ExTo w) := by
  go_enter Tryz.func26, Tryz.ntmps26
  go_wp2_with fail
  go_ret
  have k1 := blk_alloc (blk_alloc (blk_new w (.cells #[.string ⟨#[97]⟩, .string ⟨#[49]⟩, .string ⟨#[98]⟩, .string ⟨#[50]⟩] 70)) (.cells #[.string ⟨#[97]⟩, .string ⟨#[98]⟩] 9)) (.cells #[.int .i64 1, .int .u64 65536, .string ⟨#[]⟩, .slice (some ⟨w.heap.size, 0, none⟩) 2 2, .slice (some ⟨w.heap.size + 1, 0, none⟩) 2 2, .int .i64 0, .int .i64 2, .int .u64 65536, .string ⟨#[]⟩, .slice none 0 0, .slice none 0 0, .int .i64 0] 55)
  have k2 : (((w.alloc (.cells #[.string ⟨#[97]⟩, .string ⟨#[49]⟩, .string ⟨#[98]⟩, .string ⟨#[50]⟩] 70)).alloc (.cells #[.string ⟨#[97]⟩, .string ⟨#[98]⟩] 9)).alloc (.cells #[.int .i64 1, .int .u64 65536, .string ⟨#[]⟩, .slice (some ⟨w.heap.size, 0, none⟩) 2 2, .slice (some ⟨w.heap.size + 1, 0, none⟩) 2 2, .int .i64 0, .int .i64 2, .int .u64 65536, .string ⟨#[]⟩, .slice none 0 0, .slice none 0 0, .int .i64 0] 55)).heap[w.heap.size + 1]? = some (.cells #[.string ⟨#[97]⟩, .string ⟨#[98]⟩] 9 (0, 0)) := by
    have h := blk_new (w.alloc (.cells #[.string ⟨#[97]⟩, .string ⟨#[49]⟩, .string ⟨#[98]⟩, .string ⟨#[50]⟩] 70)) (.cells #[.string ⟨#[97]⟩, .string ⟨#[98]⟩] 9)
    rw [World.size_alloc] at h
    exact blk_alloc h _
  have k3 : (((w.alloc (.cells #[.string ⟨#[97]⟩, .string ⟨#[49]⟩, .string ⟨#[98]⟩, .string ⟨#[50]⟩] 70)).alloc (.cells #[.string ⟨#[97]⟩, .string ⟨#[98]⟩] 9)).alloc (.cells #[.int .i64 1, .int .u64 65536, .string ⟨#[]⟩, .slice (some ⟨w.heap.size, 0, none⟩) 2 2, .slice (some ⟨w.heap.size + 1, 0, none⟩) 2 2, .int .i64 0, .int .i64 2, .int .u64 65536, .string ⟨#[]⟩, .slice none 0 0, .slice none 0 0, .int .i64 0] 55)).heap[w.heap.size + 1 + 1]? = some (.cells #[.int .i64 1, .int .u64 65536, .string ⟨#[]⟩, .slice (some ⟨w.heap.size, 0, none⟩) 2 2, .slice (some ⟨w.heap.size + 1, 0, none⟩) 2 2, .int .i64 0, .int .i64 2, .int .u64 65536, .string ⟨#[]⟩, .slice none 0 0, .slice none 0 0, .int .i64 0] 55 (0, 0)) := by
    have h := blk_new ((w.alloc (.cells #[.string ⟨#[97]⟩, .string ⟨#[49]⟩, .string ⟨#[98]⟩, .string ⟨#[50]⟩] 70)).alloc (.cells #[.string ⟨#[97]⟩, .string ⟨#[98]⟩] 9)) (.cells #[.int .i64 1, .int .u64 65536, .string ⟨#[]⟩, .slice (some ⟨w.heap.size, 0, none⟩) 2 2, .slice (some ⟨w.heap.size + 1, 0, none⟩) 2 2, .int .i64 0, .int .i64 2, .int .u64 65536, .string ⟨#[]⟩, .slice none 0 0, .slice none 0 0, .int .i64 0] 55)
    rw [World.size_alloc, World.size_alloc] at h
    exact h
  refine ⟨_, 2, [⟨1, 65536, e0, some ⟨w.heap.size, 0, none⟩, 2, 2, some ⟨w.heap.size + 1, 0, none⟩, 2, 2, 0⟩, ⟨2, 65536, e0, none, 0, 0, none, 0, 0, 0⟩], rfl, rfl, own_lit okO k3 rfl (by simp) rfl, ⟨rfl, fun j hj => ?_⟩, (((Keeps.refl no w).alloc _).alloc _).alloc _, fun v hv k hk => ?_, new_fresh w _ (by omega) 0⟩
  rotate_left
  · rintro ⟨y, e, rfl⟩
    cases e
    simp at hv
    rcases hv with rfl | rfl
    · rcases hk with ⟨y, e, hy⟩ | ⟨y, e, hy⟩ <;> cases e <;> simp only at hy <;> omega
    · rcases hk with ⟨y, e, hy⟩ | ⟨y, e, hy⟩ <;> cases e
  match j with
  | 0 => exact okop_put (i := 65536) (ps := Kw.P1) (keys := [Kw.a, Kw.b]) (by decide) k1 rfl k2 rfl (by decide) (by decide) (by decide) (by decide) rfl rfl
  | 1 => exact okop_com (by decide)
  | j + 2 => have h : j + 2 < 2 := hj; omega
theorem or_add {i a b : Nat} (h : b < 2 ^ i) : 2 ^ i * a ||| b = 2 ^ i * a + b := (Nat.two_pow_add_eq_or_of_lt h a).symm
theorem or4 (a b c d : Nat) (ha : a < 256) (hb : b < 256) (hc : c < 256) (hd : d < 256) : bits .or .u32 (bits .or .u32 (bits .or .u32 ((a : Int) % 4294967296 * 16777216 % 4294967296) ((b : Int) % 4294967296 * 65536 % 4294967296)) ((c : Int) % 4294967296 * 256 % 4294967296)) ((d : Int) % 4294967296) = (((((a * 256 + b) * 256 + c) * 256 + d : Nat)) : Int) := by
  have e1 : ((a : Int) % 4294967296 * 16777216 % 4294967296) = ((2 ^ 24 * a : Nat) : Int) := by omega
  have e2 : ((b : Int) % 4294967296 * 65536 % 4294967296) = ((2 ^ 16 * b : Nat) : Int) := by omega
  have e3 : ((c : Int) % 4294967296 * 256 % 4294967296) = ((2 ^ 8 * c : Nat) : Int) := by omega
  have e4 : ((d : Int) % 4294967296) = ((d : Nat) : Int) := by omega
  have f1 : 2 ^ 24 * a ||| 2 ^ 16 * b = 2 ^ 16 * (256 * a + b) := by
    rw [or_add (by omega)]; omega
  have f2 : 2 ^ 16 * (256 * a + b) ||| 2 ^ 8 * c = 2 ^ 8 * (256 * (256 * a + b) + c) := by
    rw [or_add (by omega)]; omega
  have f3 : 2 ^ 8 * (256 * (256 * a + b) + c) ||| d = 256 * (256 * (256 * a + b) + c) + d := by
    rw [or_add (by omega)]
  rw [e1, e2, e3, e4, u32_or_nat _ _ (by omega) (by omega), f1, u32_or_nat _ _ (by omega) (by omega), f2, u32_or_nat _ _ (by omega) (by omega), f3]
  congr 1
  omega
set_option maxRecDepth 10000 in
theorem snapSum_any (w : World) (o : Option Addr) (c : Nat) (bs : List Nat) (hl : bs.length = 25) (hr : BRow w o bs) :
    Calls Tryz.prog 27 #[.slice o 25 c] w fun e w' => e = .returned (.int .u32 ((val (tailO bs) : Nat) : Int)) ∧ Keeps no w w' := by
  obtain ⟨hby, _, hrow⟩ := hr
  rcases hrow with h0 | ⟨b, off, rfl, hc⟩
  · rw [h0] at hl; simp at hl
  have d0 := hc 21 (by omega)
  have d1 := hc 22 (by omega)
  have d2 := hc 23 (by omega)
  have d3 := hc 24 (by omega)
  have l0 := getD_lt bs hby 21 (by omega)
  have l1 := getD_lt bs hby 22 (by omega)
  have l2 := getD_lt bs hby 23 (by omega)
  have l3 := getD_lt bs hby 24 (by omega)
  have ht : tailO bs = [bs.getD 21 0, bs.getD 22 0, bs.getD 23 0, bs.getD 24 0] := by
    unfold tailO
    rw [hl]
    apply List.ext_getElem?
    intro j
    rw [List.getElem?_drop]
    match j with
    | 0 => simp [List.getD_eq_getElem?_getD, hl]
    | 1 => simp [List.getD_eq_getElem?_getD, hl]
    | 2 => simp [List.getD_eq_getElem?_getD, hl]
    | 3 => simp [List.getD_eq_getElem?_getD, hl]
    | j + 4 => rw [List.getElem?_eq_none (by omega), List.getElem?_eq_none (by simp)]
  generalize bs.getD 21 0 = x0 at d0 l0 ht
  generalize bs.getD 22 0 = x1 at d1 l1 ht
  generalize bs.getD 23 0 = x2 at d2 l2 ht
  generalize bs.getD 24 0 = x3 at d3 l3 ht
  have HT : Hid (val (tailO bs) = ((x0 * 256 + x1) * 256 + x2) * 256 + x3) := (show _ = _ by rw [ht]; simp [val])
  have HL : Hid (x0 < 256 ∧ x1 < 256 ∧ x2 < 256 ∧ x3 < 256) := ⟨l0, l1, l2, l3⟩
  clear hc hby hl ht l0 l1 l2 l3
  go_enter Tryz.func27, Tryz.ntmps27
  go_wp2_with fail
  go_quiet (fail)
  go_wp2_with fail
  go_ret
  refine ⟨?_, (Keeps.refl no w).drewN _⟩
  show Ending.returned (.int .u32 _) = _
  rw [or4 x0 x1 x2 x3 HL.out.1 HL.out.2.1 HL.out.2.2.1 HL.out.2.2.2, HT.out]
end Go.Proofs.YtbnohdgdadfjlaaGreatDoor
