/- The document's wanted, own, Mend. -/
import Derived.Test.YtodblodbeobgeaaD3
import Derived.Test.YtodblodbeobgeaaL4
namespace Go.Proofs.Ytodblodbeobgeaa
open Go.RowKit Go.Sort Orl
set_option linter.unusedVariables false
set_option linter.unusedSimpArgs false

def wantedV (ws : List Wn) (k : Tx) : Nat := ((ws.find? fun p => decide (p.1 = k)).map (·.2)).getD 0
theorem wanted_drop (ws : List Wn) (k : Tx) (j : Nat) (hj : j < ws.length) : ((ws.drop j).find? fun p => decide (p.1 = k)) = if (ws.getD j w0').1 = k then some (ws.getD j w0') else (ws.drop (j + 1)).find? fun p => decide (p.1 = k) := by
  have e : ws.drop j = ws.getD j w0' :: ws.drop (j + 1) := by
    rw [List.drop_eq_getElem_cons hj]; simp [hj]
  rw [e, List.find?_cons]
  by_cases h : (ws.getD j w0').1 = k
  · rw [if_pos h, decide_eq_true h]
  · rw [if_neg h, decide_eq_false h]
theorem wanted_any (w : World) (a : Option Addr) (n c : Nat) (ws : List Wn) (k : Tx) (hn : n = ws.length) (hl : ws.length ≤ 1024) (hs : Sl WE w a c ws) :
    Calls Try.prog 37 #[.slice a n c, .string k] w fun e w' => e = .returned (.int .u64 (wantedV ws k : Nat)) ∧ w' = w := by
  have HA : Hid (n = ws.length) := hn
  have hA : (n : Int) ≤ 1024 := by omega
  clear hn hl
  go_enter Try.func37, Try.ntmps37
  go_wp2_with fail
  go_loop [5] (fun i => ∃ j : Nat, j ≤ n ∧ i = .int .i64 j ∧ Hid (wantedV ws k = wantedV (ws.drop j) k)) (fun i => n - (intOf i).toNat)
  case atStart => exact ⟨0, by omega, rfl, rfl⟩
  case round =>
    obtain ⟨j, hj, rfl, HT⟩ := hrel
    by_cases h2 : j < n
    · have hja : j < ws.length := by have := HA.out; omega
      have h2' : (j : Int) < n := by omega
      obtain ⟨b1, off1, rfl, d0, d1⟩ := hs.atW hja
      have HX := wanted_drop ws k j hja
      have HX' : Hid (((ws.drop j).find? fun p => decide (p.1 = k)) = if (ws.getD j w0').1 = k then some (ws.getD j w0') else (ws.drop (j + 1)).find? fun p => decide (p.1 = k)) := HX
      clear HX hja
      generalize ws.getD j w0' = p at d0 d1 HX'
      obtain ⟨x, i⟩ := p
      simp only at d0 d1
      by_cases hxy : x = k
      · have hxy' : (x.toList == k.toList) = true := by rw [tx_eq]; simpa using hxy
        have HR : Hid (wantedV ws k = i) := by
          show _ = _
          rw [HT.out]
          unfold wantedV
          rw [HX'.out, if_pos hxy]; rfl
        clear hxy HX'
        go_wp2
        go_ret
        exact ⟨by rw [HR.out]; rfl, rfl⟩
      · have hxy' : (x.toList == k.toList) = false := by rw [tx_eq]; simpa using hxy
        have HR : Hid (wantedV ws k = wantedV (ws.drop (j + 1)) k) := by
          show _ = _
          rw [HT.out]
          unfold wantedV
          rw [HX'.out, if_neg hxy]
        clear hxy HX'
        go_wp2
        go_round
        case rel => exact ⟨j + 1, by omega, by go_num, HR⟩
        case measure => simp [intOf]; omega
    · have h2' : ¬ (j : Int) < n := by omega
      have HR : Hid (wantedV ws k = 0) := by
        show _ = _
        rw [HT.out, List.drop_eq_nil_of_le (by have := HA.out; omega)]; rfl
      go_wp2
      go_ret
      exact ⟨by rw [HR.out]; rfl, rfl⟩
theorem needs_nodup {l : List Ver} (hf : Formed l) {y : Ver} (hy : y ∈ l) : wantedV (needsV l) y.key = if y.id < mostV l y then mostV l y else 0 := by
  unfold wantedV
  cases h : (needsV l).find? (fun p => decide (p.1 = y.key)) with
  | none =>
    rw [if_neg]
    · rfl
    · intro hlt
      obtain ⟨p, hp, e⟩ := (wanted_iff hf hy).2 hlt
      have := List.find?_eq_none.1 h p hp
      simp [e] at this
  | some p =>
    have h1 := List.find?_some h
    have hp := List.mem_of_find?_eq_some h
    simp only [decide_eq_true_eq] at h1
    have hlt := (wanted_iff hf hy).1 ⟨p, hp, h1⟩
    rw [if_pos hlt]
    obtain ⟨z, hz, hlz, rfl⟩ := (needs_mem l p).1 hp
    obtain ⟨i, hi, rfl⟩ := List.getElem_of_mem hy
    obtain ⟨k, hk, rfl⟩ := List.getElem_of_mem hz
    have := hf.keys_inj (i := k) (k := i) hk hi (by simpa [hk, hi] using h1)
    subst this
    rfl

set_option maxRecDepth 10000 in
theorem dOwn_any (w : World) (r : RV) (v : Ver) (hf : FitV v) (h : VerOf w r v) :
    Calls Try.prog 38 #[.agg #[.string r.key, .int .u64 (r.id : Nat), .string r.val, .slice r.o r.n r.c]] w fun e w' => ∃ u, e = .returned u ∧ GiveV w v u w' := by
  obtain ⟨vk, vi, vv, vks⟩ := v
  obtain ⟨k, i, x, o, n, c⟩ := r
  obtain ⟨h1, h2, h3, hn, hs⟩ := h
  simp only at h1 h2 h3 hn hs ⊢
  subst h1 h2 h3
  obtain ⟨fi, fk, fv, fl, fs⟩ := hf
  simp only at fi fk fv fl fs
  have HN : Hid (n = vks.length) := hn
  go_enter Try.func38, Try.ntmps38
  have HK2 : Hid (Keeps no w ((w.alloc (.cells #[.string k, .int .u64 (i : Nat), .string x, .slice o n c] 32)).alloc (.cells #[.string ⟨#[]⟩, .int .u64 0, .string ⟨#[]⟩, .slice none 0 0] 32))) := ((Keeps.refl no w).alloc _).alloc _
  have HSL : Hid (Sl TE w o c vks) := hs
  clear hs hn
  go_wp2_with (at_builtin; refine wpList_app okT rfl _ _ rfl _ _ _ [] rfl rfl (own_nil _) _ _ _ vks rfl HN.out HSL.out.nil (HSL.out.keepsN HK2.out).row (by simp [TE]; omega) (by simp; omega) ?_; intro os6 cs6 ws6 hos6 haps6; have HKQ : Hid (Keeps no w ws6) := (HK2.out.trans (haps6.new (new_none _) (Keeps.refl no _)).2); have HNQ : Hid (∀ q, inO os6 q → w.heap.size + 2 ≤ q) := (by have h := (haps6.new (new_none _) (Keeps.refl no _)).1; intro q hq; have := h q hq; simpa using this); have hb0 := (haps6.new (new_none _) (Keeps.refl no _)).2.at (blk_alloc (blk_new w (.cells #[.string k, .int .u64 (i : Nat), .string x, .slice o n c] 32)) _) id; have hb1 : ws6.heap[w.heap.size + 1]? = some (.cells #[.string ⟨#[]⟩, .int .u64 0, .string ⟨#[]⟩, .slice none 0 0] 32 (0, 0)) := (by have h := (haps6.new (new_none _) (Keeps.refl no _)).2.at (blk_new (w.alloc (.cells #[.string k, .int .u64 (i : Nat), .string x, .slice o n c] 32)) (.cells #[.string ⟨#[]⟩, .int .u64 0, .string ⟨#[]⟩, .slice none 0 0] 32)) id; simpa using h); obtain ⟨x0, x1, x2, x3⟩ := cells4 hb0; obtain ⟨y0, y1, y2, y3⟩ := cells4 hb1; have f3 := frozen_of_blk hb0 3; have k0 := frozen_of_blk hb1 0; have k1 := frozen_of_blk hb1 1; have k2 := frozen_of_blk hb1 2; have k3 := frozen_of_blk hb1 3; have HBB : Hid (ws6.heap[w.heap.size]? = some (.cells #[.string k, .int .u64 (i : Nat), .string x, .slice o n c] 32 (0, 0)) ∧ ws6.heap[w.heap.size + 1]? = some (.cells #[.string ⟨#[]⟩, .int .u64 0, .string ⟨#[]⟩, .slice none 0 0] 32 (0, 0))) := ⟨hb0, hb1⟩; clear hb0 hb1 haps6)
  have hq := set4 (b0 := .string k) (b1 := .int .u64 (i : Nat)) (b2 := .string x) (b3 := .slice os6 n cs6) (blk_set_ne HBB.out.2 (p := ⟨w.heap.size, 3, none⟩) (by simp) (.slice os6 n cs6))
  have hk9 : Keeps (fun q => q = w.heap.size ∨ q = w.heap.size + 1) ws6 _ := ((Keeps.refl (fun q => q = w.heap.size ∨ q = w.heap.size + 1) ws6).setCell (p := ⟨w.heap.size, 3, none⟩) (.inl (.inl rfl)) (.slice os6 n cs6)).trans (hq.2.mono fun q hq => .inr hq)
  generalize ((((ws6.setCell ⟨w.heap.size, 3, none⟩ (.slice os6 n cs6)).setCell ⟨w.heap.size + 1, 0, none⟩ (.string k)).setCell ⟨w.heap.size + 1, 1, none⟩ (.int .u64 (i : Nat))).setCell ⟨w.heap.size + 1, 2, none⟩ (.string x)).setCell ⟨w.heap.size + 1, 3, none⟩ (.slice os6 n cs6) = w9 at hq hk9 ⊢
  refine bodyPost_ret (results_row1 rfl _ _ (w.heap.size + 1) _ rfl (run_loadVar_row _ _ _ _ _ _ _ hq.1 Try.underlying32 rfl (ver_size _ _ _ _))) rfl ?_
  refine ⟨_, rfl, os6, n, cs6, rfl, HN, ?_, fun q hq => by have := HNQ.out q hq; omega, HKQ.out.then hk9 (fun q hq => .inr (by omega))⟩
  exact hos6.keeps hk9 (fun q hq e => by have := HNQ.out q hq; omega)

/-- got's first that is asked for, among those from j on -/
def hitB (i : Nat) (k : Tx) (g : Ver) : Bool := decide (g.key = k) && decide (g.id = i)
def curV (i : Nat) (y : Ver) (got : List Ver) (j : Nat) : Ver := if i = 0 then y else ((got.drop j).find? (hitB i y.key)).getD y
def fndB (i : Nat) (y : Ver) (got : List Ver) (j : Nat) : Bool := if i = 0 then true else ((got.drop j).find? (hitB i y.key)).isSome
theorem cur_succ (i : Nat) (y : Ver) (got : List Ver) (j : Nat) (hj : j < got.length) : curV i y got j = (if i ≠ 0 ∧ hitB i y.key (got.getD j v0) = true then got.getD j v0 else curV i y got (j + 1)) ∧ fndB i y got j = (if i ≠ 0 ∧ hitB i y.key (got.getD j v0) = true then true else fndB i y got (j + 1)) := by
  have e : got.drop j = got.getD j v0 :: got.drop (j + 1) := by
    rw [List.drop_eq_getElem_cons hj]; simp [hj]
  unfold curV fndB
  by_cases h0 : i = 0
  · simp [h0]
  · simp only [if_neg h0]
    rw [e, List.find?_cons]
    by_cases h : hitB i y.key (got.getD j v0) = true
    · rw [if_pos ⟨h0, h⟩, if_pos ⟨h0, h⟩, h]; exact ⟨rfl, rfl⟩
    · rw [if_neg (fun hh => h hh.2), if_neg (fun hh => h hh.2)]
      rw [Bool.not_eq_true] at h
      rw [h]; exact ⟨rfl, rfl⟩
theorem place_cur {l got : List Ver} (hf : Formed l) {y : Ver} (hy : y ∈ l) : placeV l got y = if fndB (wantedV (needsV l) y.key) y got 0 = true then some (curV (wantedV (needsV l) y.key) y got 0) else none := by
  rw [needs_nodup hf hy]
  unfold placeV fndB curV
  by_cases h : y.id < mostV l y
  · rw [if_pos h, if_pos h]
    have h0 : ¬ mostV l y = 0 := by omega
    rw [if_neg h0, if_neg h0, List.drop_zero]
    have e : (fun g : Ver => decide (g.key = y.key) && decide (g.id = mostV l y)) = hitB (mostV l y) y.key := rfl
    rw [e]
    cases got.find? (hitB (mostV l y) y.key) with
    | none => rfl
    | some a => rfl
  · rw [if_neg h, if_neg h]; rfl
/-- what Mend tells -/
def MendTo (w : World) (l got : List Ver) (u : Value) (w' : World) : Prop :=
  (formedB l = false ∧ u = .tuple #[.slice none 0 0, .int .i64 1] ∧ Keeps no w w') ∨ (formedB l = true ∧ mendV l got = none ∧ u = .tuple #[.slice none 0 0, .int .i64 110] ∧ Keeps no w w') ∨
  (formedB l = true ∧ ∃ m o n c rs, mendV l got = some m ∧ u = .tuple #[.slice o n c, .int .i64 0] ∧ n = m.length ∧ NewVs w o c rs m w')
def mendTo (l got : List Ver) (i : Nat) : Option (List Ver) := (l.take i).mapM (placeV l got)
theorem mapM_snoc {α β : Type} (f : α → Option β) (l : List α) (x : α) {ys : List β} {y : β} (h1 : l.mapM f = some ys) (h2 : f x = some y) : (l ++ [x]).mapM f = some (ys ++ [y]) := by
  rw [List.mapM_append, h1]
  simp [h2]
theorem mapM_length {α β : Type} (f : α → Option β) : ∀ (l : List α) {ys : List β}, l.mapM f = some ys → ys.length = l.length
  | [], ys, h => by simp at h; subst h; rfl
  | x :: r, ys, h => by
    rw [List.mapM_cons] at h
    cases hx : f x with
    | none => rw [hx] at h; cases h
    | some y =>
      cases hr : r.mapM f with
      | none => rw [hx, hr] at h; cases h
      | some zs =>
        rw [hx, hr] at h
        have := mapM_length f r hr
        simp at h
        subst h
        simp [this]
end Go.Proofs.Ytodblodbeobgeaa
