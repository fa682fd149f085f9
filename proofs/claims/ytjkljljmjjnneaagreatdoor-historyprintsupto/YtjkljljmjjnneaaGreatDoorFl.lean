/- Lists of fitted events; what they are in pure lists. -/
import Derived.Test.YtjkljljmjjnneaaGreatDoorFt
import Derived.Test.YtjkljljmjjnneaaGreatDoorI6
namespace Go.Proofs.YtjkljljmjjnneaaGreatDoor
open Go.RowKit Go.Sort Orl
set_option linter.unusedVariables false
set_option linter.unusedSimpArgs false

theorem EvS.keepsN {w0 W W' : World} {r : RE} {e : Ev} (h : EvS w0 W r e) (k : Keeps no W W') : EvS w0 W' r e :=
  ⟨fun q hq => by obtain ⟨cur, hc⟩ := h.1 q hq; exact ⟨cur, k.at hc id⟩, fun w'' hk => h.2 w'' (k.of_no.trans hk)⟩
theorem EvS.at {w0 W : World} {r : RE} {e : Ev} (h : EvS w0 W r e) : EvOf W r e := h.2 W (Keeps.refl _ _)
theorem EvS.base {w0 w1 W : World} {r : RE} {e : Ev} (h : EvS w0 W r e) (hle : w0.heap.size ≤ w1.heap.size) : EvS w1 W r e :=
  ⟨h.1, fun w'' hk => h.2 w'' (hk.mono (fun i hi => ⟨Nat.le_trans hle hi.1, hi.2⟩))⟩
/-- a list of events is lengthened beside it -/
theorem EvS.ap {w0 W W' : World} {r : RE} {e : Ev} {c : Nat} {rs : List RE} (h : EvS w0 W r e) {o o' : Option Addr} (ho : Own EE W o c rs) (hn : New w0 o) (ha : Ap W o o' W') : EvS w0 W' r e := by
  have hne : ∀ q, inO o q → ¬ inO r.vo q := fun q h1 h2 => by
    obtain ⟨c1, e1⟩ := ho.tag q h1
    obtain ⟨c2, e2⟩ := h.1 q h2
    rw [e1] at e2
    injection e2 with e2
    injection e2 with _ e2 _
    exact absurd e2 (by decide)
  rcases ha with ⟨_, k⟩ | ⟨_, k⟩
  · refine ⟨fun q hq => ?_, fun w'' hk => h.2 w'' ((k.mono (fun i hi => ⟨hn i hi, hne i hi⟩)).trans hk)⟩
    obtain ⟨cur, hc⟩ := h.1 q hq
    exact ⟨cur, k.at hc (fun h1 => hne q h1 hq)⟩
  · exact h.keepsN k
/-- a list of events of the call's own -/
structure Fl (w0 W : World) (o : Option Addr) (c : Nat) (rs : List RE) (es : List Ev) : Prop where
  own : Own EE W o c rs
  new : New w0 o
  len : rs.length = es.length
  each : ∀ j, j < es.length → EvS w0 W (rs.getD j re0) (es.getD j ev0)
theorem Fl.keepsN {w0 W W' : World} {o : Option Addr} {c : Nat} {rs : List RE} {es : List Ev} (h : Fl w0 W o c rs es) (k : Keeps no W W') : Fl w0 W' o c rs es := ⟨h.own.keepsN k, h.new, h.len, fun j hj => (h.each j hj).keepsN k⟩
theorem Fl.evs {w0 W : World} {o : Option Addr} {c : Nat} {rs : List RE} {es : List Ev} (h : Fl w0 W o c rs es) : Evs W o c rs es := ⟨h.own.sl, h.len, fun j hj => (h.each j hj).at⟩
theorem Fl.nil (w0 W : World) : Fl w0 W none 0 [] [] := ⟨own_nil _, new_none _, rfl, fun j hj => absurd hj (Nat.not_lt_zero _)⟩
theorem getD_app_left {α : Type} (d : α) {l m : List α} {j : Nat} (h : j < l.length) : (l ++ m).getD j d = l.getD j d := by
  simp [List.getD_eq_getElem?_getD, List.getElem?_append_left h]
theorem getD_app_right {α : Type} (d : α) {l m : List α} {j : Nat} (h : l.length ≤ j) : (l ++ m).getD j d = m.getD (j - l.length) d := by
  simp [List.getD_eq_getElem?_getD, List.getElem?_append_right h]
/-- two lists, the second behind the first -/
theorem Fl.app {w0 W W' : World} {o o' : Option Addr} {c c' : Nat} {rs rt : List RE} {es et : List Ev} (h : Fl w0 W o c rs es) (hl : rt.length = et.length) (ht : ∀ j, j < et.length → EvS w0 W (rt.getD j re0) (et.getD j ev0)) (hk : Keeps no w0 W) (ho : Own EE W' o' c' (rs ++ rt)) (ha : Ap W o o' W') : Fl w0 W' o' c' (rs ++ rt) (es ++ et) ∧ Keeps no w0 W' := by
  obtain ⟨hn, hkk⟩ := ha.new h.new hk
  refine ⟨⟨ho, hn, by rw [List.length_append, List.length_append, h.len, hl], fun j hj => ?_⟩, hkk⟩
  by_cases hj1 : j < es.length
  · rw [getD_app_left re0 (by rw [h.len]; exact hj1), getD_app_left ev0 hj1]
    exact (h.each j hj1).ap h.own h.new ha
  · rw [getD_app_right re0 (by rw [h.len]; omega), getD_app_right ev0 (by omega), h.len]
    rw [List.length_append] at hj
    exact (ht _ (by omega)).ap h.own h.new ha
/-- what came in -/
structure RawOk (es : List Ev) : Prop where
  sz : ∀ e ∈ es, SzE e
  kind : ∀ e ∈ es, I64 e.kind
  client : ∀ e ∈ es, I64 e.client
  txn : ∀ e ∈ es, I64 e.txn
  ares : ∀ e ∈ es, I64 e.ares
  wt : (es.map wtE).sum ≤ 1000000000
def fitL (es : List Ev) : List Ev := (es.take 60).map fitE
theorem rst_cast (n : Int) (m : Nat) : 0 ≤ ((rst n m : Nat) : Int) ∧ ((rst n m : Nat) : Int) ≤ (m : Int) := by have := rst_le n m; omega
theorem fit_may (e : Ev) : mayB (fitE e) = true := by
  have hC := rst_cast e.client 15
  have hT := rst_cast e.txn 1099511627776
  have hA := rst_cast (IntKind.i64.wrap (e.ares - 1)) 5
  unfold fitE
  simp only
  unfold mayB
  rw [Bool.and_eq_true, Bool.and_eq_true]
  split
  · refine ⟨⟨decide_eq_true (by simp only; omega), decide_eq_true (by simp only; omega)⟩, ?_⟩
    simp [zeroB]
  · split
    · refine ⟨⟨decide_eq_true (by simp only; omega), decide_eq_true (by simp only; omega)⟩, ?_⟩
      simp [zeroB]
    · refine ⟨⟨decide_eq_true (by simp only; omega), decide_eq_true (by simp only; omega)⟩, ?_⟩
      simp only [show ¬ ((3 : Int) = 1) by decide, show ¬ ((3 : Int) = 2) by decide, if_false, if_true]
      unfold ansB
      simp only [List.length_nil, decide_true, Bool.true_and, Bool.and_true]
      rw [decide_eq_true (show 1 ≤ 1 + ((rst (IntKind.i64.wrap (e.ares - 1)) 5 : Nat) : Int) by omega), decide_eq_true (show 1 + ((rst (IntKind.i64.wrap (e.ares - 1)) 5 : Nat) : Int) ≤ 6 by omega)]
      rw [Bool.true_and, Bool.true_and]
      refine List.all_eq_true.2 fun v hv => ?_
      obtain ⟨u, _, rfl⟩ := List.mem_map.1 hv
      unfold verB fitV
      split
      · rfl
      · rename_i h
        simp [h]
theorem fit_sz {e : Ev} (h : SzE e) : SzE (fitE e) := by
  have hT := rst_cast e.txn 1099511627776
  unfold fitE
  simp only
  split
  · exact ⟨h.id, by simp only; decide, fun v hv => (by cases hv), h.pl, by simp only [List.length_nil]; omega, by simp only [List.length_nil]; omega, fun v hv => (by cases hv), by simp only; omega⟩
  · split
    · exact ⟨by simp only; decide, by simp only; decide, fun v hv => (by cases hv), by simp only [List.length_nil]; omega, h.kl, by simp only [List.length_nil]; omega, fun v hv => (by cases hv), by simp only; omega⟩
    · have hv : ∀ v ∈ e.vers.map fitV, v.id < 18446744073709551616 ∧ v.keys.length ≤ 8796093022000 := fun v hv => by
        obtain ⟨u, hu, rfl⟩ := List.mem_map.1 hv
        unfold fitV
        split
        · exact ⟨by simp only; decide, by simp only [List.length_nil]; omega⟩
        · exact ⟨h.vid u hu, h.vk u hu⟩
      exact ⟨by simp only; decide, h.aid, fun v k => (hv v k).1, by simp only [List.length_nil]; omega, by simp only [List.length_nil]; omega, by simp only [List.length_map]; exact h.vl, fun v k => (hv v k).2, by simp only; omega⟩
theorem wtV_fit (v : Ver) : wtV (fitV v) ≤ wtV v := by
  unfold fitV
  split
  · unfold wtV wtT
    simp only [List.map_nil, List.sum_nil]
    have : e0.size = 0 := rfl
    omega
  · exact Nat.le_refl _
theorem sum_le2 {α : Type} (f g : α → Nat) : ∀ l : List α, (∀ a ∈ l, f a ≤ g a) → (l.map f).sum ≤ (l.map g).sum
  | [], _ => Nat.le_refl _
  | a :: l, h => by
    simp only [List.map_cons, List.sum_cons]
    have := h a (List.mem_cons_self)
    have := sum_le2 f g l (fun b hb => h b (List.mem_cons_of_mem _ hb))
    omega
theorem fit_wt (e : Ev) : wtE (fitE e) ≤ wtE e := by
  unfold fitE
  simp only
  have hv : ((e.vers.map fitV).map fun v => wtV v + 1).sum ≤ (e.vers.map fun v => wtV v + 1).sum := by
    rw [List.map_map]
    exact sum_le2 _ _ _ (fun v _ => by have := wtV_fit v; simp only [Function.comp]; omega)
  split
  · unfold wtE; simp only [List.map_nil, List.sum_nil]; omega
  · split
    · unfold wtE; simp only [List.map_nil, List.sum_nil]; omega
    · unfold wtE; simp only [List.map_nil, List.sum_nil]; omega
theorem fitL_len (es : List Ev) : (fitL es).length ≤ 60 := by unfold fitL; rw [List.length_map, List.length_take]; omega
theorem fitL_mem {es : List Ev} {x : Ev} (h : x ∈ fitL es) : ∃ e ∈ es, x = fitE e := by
  obtain ⟨e, he, rfl⟩ := List.mem_map.1 h
  exact ⟨e, List.mem_of_mem_take he, rfl⟩
theorem fitL_may (es : List Ev) : (fitL es).all mayB = true := List.all_eq_true.2 fun x hx => by
  obtain ⟨e, _, rfl⟩ := fitL_mem hx
  exact fit_may e
theorem fitL_wt {es : List Ev} (h : RawOk es) : ((fitL es).map wtE).sum ≤ 1000000000 := by
  have h1 : ((fitL es).map wtE).sum ≤ ((es.take 60).map wtE).sum := by
    unfold fitL
    rw [List.map_map]
    exact sum_le2 _ _ _ (fun e _ => fit_wt e)
  have h2 := h.wt
  rw [← List.take_append_drop 60 es, List.map_append, List.sum_append] at h2
  omega
theorem fitL_szl {es : List Ev} (h : RawOk es) : SzL (fitL es) :=
  ⟨fun x hx => by obtain ⟨e, he, rfl⟩ := fitL_mem hx; exact fit_sz (h.sz e he), by have := fitL_len es; omega, by have := fitL_wt h; omega⟩
theorem both_szl {es fs : List Ev} (h : RawOk es) (k : RawOk fs) : SzL (fitL es ++ fitL fs) := by
  have a := fitL_szl h
  have b := fitL_szl k
  refine ⟨fun x hx => ?_, by rw [List.length_append]; have := fitL_len es; have := fitL_len fs; omega, by rw [List.map_append, List.sum_append]; have := fitL_wt h; have := fitL_wt k; omega⟩
  rcases List.mem_append.1 hx with hx | hx
  · exact a.each x hx
  · exact b.each x hx
def txtE (es : List Ev) : Tx := ⟨(es.flatMap lineW).toArray⟩
theorem printV_txt {es : List Ev} (h : es.all mayB = true) : printV es = .tuple #[.string (txtE es), .int .i64 0] := by unfold printV; rw [if_pos h]; rfl
theorem txt_size {es : List Ev} (h : es.all mayB = true) (hz : ∀ e ∈ es, SzE e) : (txtE es).size ≤ (es.map wtE).sum := by
  show (es.flatMap lineW).toArray.size ≤ _
  rw [List.size_toArray]
  induction es with
  | nil => simp
  | cons e es ih =>
    rw [List.flatMap_cons, List.length_append, List.map_cons, List.sum_cons]
    have hm := List.all_eq_true.1 h e (List.mem_cons_self)
    have h1 := lineW_wt (hz e (List.mem_cons_self)) (may_wr hm (hz e (List.mem_cons_self)))
    have h2 := ih (List.all_eq_true.2 fun x hx => List.all_eq_true.1 h x (List.mem_cons_of_mem _ hx)) (fun x hx => hz x (List.mem_cons_of_mem _ hx))
    omega
/-- Parse of the whole text -/
theorem parse_txt {es : List Ev} (h : es.all mayB = true) (hz : ∀ e ∈ es, SzE e) : parseR (txtE es).data.toList = (some (es.map ebE), 0) := by
  have := parse_written h hz [] (fun c hc => by cases hc)
  rw [List.append_nil, if_pos rfl] at this
  exact this
/-- a text cut: whole lines and a piece of one -/
def nlc (l : List UInt8) : Nat := l.countP (fun c => c == 10)
theorem line_shape {e : Ev} (h : mayB e = true) (hz : SzE e) : ∃ p : List UInt8, lineW e = p ++ [10] ∧ ∀ c ∈ p, c ≠ 10 := by
  obtain ⟨h1, h2, _⟩ := eb_of h hz
  exact ⟨preX (ebE e), by rw [evB_w h1 h2, line_pre h2], pre_cl _⟩
theorem nlc_none {p : List UInt8} (h : ∀ c ∈ p, c ≠ 10) : nlc p = 0 := by
  unfold nlc
  rw [List.countP_eq_zero]
  intro c hc
  simpa using h c hc
theorem cut_lines : ∀ (es : List Ev) (k : Nat), es.all mayB = true → (∀ e ∈ es, SzE e) → k ≤ (es.flatMap lineW).length →
    ∃ q : List UInt8, (es.flatMap lineW).take k = (es.take (nlc ((es.flatMap lineW).take k))).flatMap lineW ++ q ∧ (∀ c ∈ q, c ≠ 10) ∧ nlc ((es.flatMap lineW).take k) ≤ es.length
  | [], k, _, _, hk => ⟨[], by simp, fun c hc => (by cases hc), by simp [nlc]⟩
  | e :: es, k, hm, hz, hk => by
    have hm1 := List.all_eq_true.1 hm e (List.mem_cons_self)
    obtain ⟨p, hp, hpc⟩ := line_shape hm1 (hz e (List.mem_cons_self))
    have hl : (lineW e).length = p.length + 1 := by rw [hp]; simp
    by_cases h : k ≤ p.length
    · have ht : ((e :: es).flatMap lineW).take k = p.take k := by
        rw [List.flatMap_cons, hp, List.append_assoc, List.take_append_of_le_length h]
      have hc : ∀ c ∈ p.take k, c ≠ 10 := fun c hc => hpc c (List.mem_of_mem_take hc)
      rw [ht, nlc_none hc]
      exact ⟨p.take k, by simp, hc, Nat.zero_le _⟩
    · obtain ⟨q, h1, h2, h3⟩ := cut_lines es (k - (p.length + 1)) (List.all_eq_true.2 fun x hx => List.all_eq_true.1 hm x (List.mem_cons_of_mem _ hx)) (fun x hx => hz x (List.mem_cons_of_mem _ hx)) (by rw [List.flatMap_cons, List.length_append, hl] at hk; omega)
      have ht : ((e :: es).flatMap lineW).take k = lineW e ++ (es.flatMap lineW).take (k - (p.length + 1)) := by
        rw [List.flatMap_cons, List.take_append, hl, List.take_of_length_le (by omega)]
      have hn : nlc (lineW e ++ (es.flatMap lineW).take (k - (p.length + 1))) = nlc ((es.flatMap lineW).take (k - (p.length + 1))) + 1 := by
        have := nlc_none hpc
        unfold nlc at this ⊢
        rw [List.countP_append, hp, List.countP_append, this]
        simp
        omega
      rw [ht, hn]
      refine ⟨q, ?_, h2, by simp; omega⟩
      rw [List.take_succ_cons, List.flatMap_cons, List.append_assoc, ← h1]
theorem flat_last : ∀ es : List Ev, es.flatMap lineW ≠ [] → ∃ A, es.flatMap lineW = A ++ [10] := by
  intro es h
  rcases List.eq_nil_or_concat es with rfl | ⟨xs, e, rfl⟩
  · exact absurd rfl h
  · refine ⟨xs.flatMap lineW ++ (numW e.client.toNat ++ [32] ++ numW e.txn.toNat ++ [32] ++ evW e), ?_⟩
    rw [List.concat_eq_append, List.flatMap_append, List.flatMap_singleton]
    unfold lineW
    simp only [List.append_assoc]
theorem getD_last {l A : List UInt8} {c : UInt8} {i : Nat} (h : l.take i = A ++ [c]) (hi : i ≤ l.length) : 0 < i ∧ l.getD (i - 1) 0 = c := by
  have hl := congrArg List.length h
  rw [List.length_take, List.length_append, List.length_singleton] at hl
  refine ⟨by omega, ?_⟩
  have h1 : (l.take i)[i - 1]? = some c := by
    rw [h, List.getElem?_append_right (by omega), show i - 1 - A.length = 0 by omega]; rfl
  rw [List.getElem?_take, if_pos (by omega)] at h1
  rw [List.getD_eq_getElem?_getD, h1]; rfl
theorem cut_at {es : List Ev} (hm : es.all mayB = true) (hz : ∀ e ∈ es, SzE e) {i : Nat} (hi : i ≤ (es.flatMap lineW).length) :
    (parseR ((es.flatMap lineW).take i) = (some ((es.take (nlc ((es.flatMap lineW).take i))).map ebE), 0) ∧ (i = 0 ∨ (es.flatMap lineW).getD (i - 1) 0 = 10) ∧ nlc ((es.flatMap lineW).take i) ≤ es.length) ∨
    (parseR ((es.flatMap lineW).take i) = (none, nlc ((es.flatMap lineW).take i) + 1) ∧ 0 < i ∧ (es.flatMap lineW).getD (i - 1) 0 ≠ 10) := by
  obtain ⟨q, h1, h2, h3⟩ := cut_lines es i hm hz hi
  generalize hn : nlc ((es.flatMap lineW).take i) = n at h1 h3
  have hm2 : (es.take n).all mayB = true := List.all_eq_true.2 fun x hx => List.all_eq_true.1 hm x (List.mem_of_mem_take hx)
  have hp := parse_written hm2 (fun e he => hz e (List.mem_of_mem_take he)) q h2
  rw [← h1] at hp
  by_cases hq : q = []
  · left
    rw [if_pos hq] at hp
    refine ⟨hp, ?_, h3⟩
    by_cases h0 : i = 0
    · exact .inl h0
    · right
      have hne : (es.take n).flatMap lineW ≠ [] := by
        intro e
        rw [e, hq] at h1
        have := congrArg List.length h1
        rw [List.length_take] at this
        simp only [List.append_nil, List.length_nil] at this
        omega
      obtain ⟨A, hA⟩ := flat_last _ hne
      rw [hA, hq, List.append_nil] at h1
      exact (getD_last h1 hi).2
  · right
    rw [if_neg hq] at hp
    have hl : (es.take n).length = n := by rw [List.length_take]; omega
    rw [hl] at hp
    refine ⟨hp, ?_⟩
    rcases List.eq_nil_or_concat q with e | ⟨q', c, e⟩
    · exact absurd e hq
    · rw [e, List.concat_eq_append, ← List.append_assoc] at h1
      obtain ⟨g1, g2⟩ := getD_last h1 hi
      refine ⟨g1, ?_⟩
      rw [g2]
      exact h2 c (by rw [e]; simp)
end Go.Proofs.YtjkljljmjjnneaaGreatDoor
