import Derived.Test.YtkoaiibjahlnmabGreatFq
import Derived.Test.YtkoaiibjahlnmabGreatSS
/- What came in: scripts of calls, and their bulk. -/
namespace Go.Proofs.YtkoaiibjahlnmabGreat
open Go.ChangeShapes Go.WideShapes Go.ChangeAt Go.RowKit Go.Deep
set_option linter.unusedVariables false
set_option linter.unusedSimpArgs false

theorem mcO : Tryz.prog.cellsOf 37 = 6 := by kernel_rfl
theorem mbO : Tryz.prog.bytesOf 37 = 88 := by kernel_rfl
theorem mcP : Tryz.prog.cellsOf 78 = 2 := by kernel_rfl
theorem mbP : Tryz.prog.bytesOf 78 = 32 := by kernel_rfl
theorem bulk_one {H : Type} (d : DataW H) : 1 ≤ Rows.uptoBulk d := by
  cases d with
  | lit l => cases l <;> simp [Rows.uptoBulk]
  | _ => simp [Rows.uptoBulk]
theorem bulk_len {H : Type} : ∀ (l : List (DataW H)), l.length ≤ Rows.uptoBulkAll l
  | [] => by simp [Rows.uptoBulkAll]
  | d :: l => by
    have := bulk_len l
    have := bulk_one d
    simp only [Rows.uptoBulkAll, List.length_cons]; omega
/-- what each weighs, all together -/
theorem bulk_sum {H : Type} {α : Type} (f : α → Nat) (F : Nat → α) (D : Nat → DataW H) : ∀ (L : List Nat), (∀ i ∈ L, f (F i) ≤ Rows.uptoBulk (D i)) → ((L.map F).map f).sum ≤ Rows.uptoBulkAll (L.map D)
  | [], _ => by simp [Rows.uptoBulkAll]
  | i :: L, h => by
    have := bulk_sum f F D L (fun j hj => h j (List.mem_cons_of_mem _ hj))
    have := h i List.mem_cons_self
    simp only [List.map_cons, List.sum_cons, Rows.uptoBulkAll]
    omega
theorem open_listB {H : Type} {α : Type} (E : El α) (hE : E.Ok) (z : α) (OKp : α → DataW H → Prop) (f : α → Nat) (hfd : ∀ p d, OKp p d → f p ≤ Rows.uptoBulk d) (hcl : Tryz.prog.cellsOf E.e = E.k) (hby : Tryz.prog.bytesOf E.e = E.nb)
    {enc : TypeId × Value → H} {W : World} {held : Bool}
    (one : ∀ (fuel : Nat) (cs : List Value) (x : DataW H × List MemPlace), DataW.trod enc Tryz.prog W 0 (fun _ => true) held fuel E.e cs = some x → (∀ n ∈ x.1.weights Tryz.prog E.e, n ≤ reachBytes) → ∃ p, cs = E.enc p ∧ OKp p x.1)
    {fuel : Nat} {a : Option Addr} {len cap : Nat} {x : DataW H × List MemPlace}
    (hf : DataW.trod enc Tryz.prog W 0 (fun _ => true) held fuel E.t [.slice a len cap] = some x) (hw : ∀ n ∈ x.1.weights Tryz.prog E.t, n ≤ reachBytes) :
    ∃ ps : List α, ps.length = len ∧ Sl E W a cap ps ∧ (∀ p ∈ ps, ∃ d, OKp p d) ∧ cap * E.nb ≤ reachBytes ∧ len ≤ Rows.uptoBulk x.1 ∧ (ps.map f).sum ≤ Rows.uptoBulk x.1 := by
  rcases open_slice hE.und hf with ⟨hcs, hx⟩ | ⟨y, l, c, m, n, D, Pl, hcs, _, hl, hm, hmm, hx, hel⟩
  · simp at hcs
    obtain ⟨rfl, rfl, rfl⟩ := hcs
    exact ⟨[], rfl, ⟨.inl rfl, by simp, fun _ => rfl⟩, fun p hp => (by cases hp), by simp [reachBytes], by simp, by simp⟩
  · simp at hcs
    obtain ⟨rfl, rfl, rfl⟩ := hcs
    have hmm' : m = cap := by simpa using hmm
    subst hmm'
    have hw' : ∀ n ∈ (DataW.slice ((List.range len).map D) ((List.range (m - len)).map fun j => D (len + j))).weights Tryz.prog E.t, n ≤ reachBytes := by rw [hx] at hw; exact hw
    simp only [DataW.weights, hE.und] at hw'
    have hcapw := hw' _ (List.mem_cons_self)
    rw [hby] at hcapw
    simp only [List.length_map, List.length_range] at hcapw
    rw [show len + (m - len) = m by omega] at hcapw
    have each : ∀ i, i < len → ∃ p : α, (W.cells? 0 (y.add (i * E.k)) E.k = some (E.enc p)) ∧ OKp p (D i) := by
      intro i hi
      obtain ⟨cs', hc, ht⟩ := hel i (by omega)
      rw [hcl] at hc
      obtain ⟨p, rfl, h2⟩ := one n cs' _ ht (fun k hk => hw' k (List.mem_cons_of_mem _ (List.mem_append_left _ (weightsAll_mem (List.mem_map.2 ⟨i, by simp [hi], rfl⟩) k hk))))
      exact ⟨p, hc, h2⟩
    have inh : Inhabited α := ⟨z⟩
    obtain ⟨F, hF⟩ := choose_lt each
    have hget : ∀ j, j < len → ((List.range len).map F).getD j z = F j := fun j hj => by simp [List.getD_eq_getElem?_getD, hj]
    have hb1 : Rows.uptoBulkAll ((List.range len).map D) ≤ Rows.uptoBulk x.1 := by rw [hx]; simp only [Rows.uptoBulk]; omega
    refine ⟨(List.range len).map F, by simp, ⟨?_, by simpa using hl, fun h => (by cases h)⟩, ?_, hcapw, Nat.le_trans (by have := bulk_len ((List.range len).map D); simpa using this) hb1, Nat.le_trans (bulk_sum f F D _ (fun i hi => hfd _ _ (hF i (List.mem_range.1 hi)).2)) hb1⟩
    · by_cases h0 : len = 0
      · left; subst h0; simp
      · obtain ⟨b, off, spot⟩ := y
        obtain ⟨_, hl2, hce⟩ := mcells?_get (hF 0 (by omega)).1
        have hc0 := hce 0 hE.pos
        have hspot : spot = none := by
          have h7 : (E.enc (F 0))[0]? = some ((E.enc (F 0))[0]'(by rw [hE.len]; exact hE.pos)) := List.getElem?_eq_getElem _
          rw [h7] at hc0
          simpa [Addr.add] using World.cell?_spot hc0
        subst hspot
        refine row_of_el hE z fun j hj k hk => ?_
        simp at hj
        obtain ⟨_, _, hce⟩ := mcells?_get (hF j hj).1
        have g0 := hce k hk
        rw [addr_add, addr_add] at g0
        rw [hget j hj]
        exact g0
    · intro p hp
      simp only [List.mem_map, List.mem_range] at hp
      obtain ⟨i, hi, rfl⟩ := hp
      exact ⟨D i, (hF i hi).2⟩
theorem list6 {α : Type} {cs : List α} (h : cs.length = 6) : ∃ c0 c1 c2 c3 c4 c5, cs = [c0, c1, c2, c3, c4, c5] := by
  match cs, h with
  | [c0, c1, c2, c3, c4, c5], _ => exact ⟨c0, c1, c2, c3, c4, c5, rfl⟩
def OkD {H : Type} (W : World) (v : OV) (d : DataW H) : Prop := (∃ (ps : List Pr) (keys : List Tx), v.np = ps.length ∧ v.nk = keys.length ∧ v.i < 18446744073709551616 ∧ v.y.size ≤ 140737488351232 ∧ Sl PE W v.ap v.cp ps ∧ Sl TE W v.ak v.ck keys ∧ (∀ x ∈ ps, x.2.size ≤ 140737488351232) ∧ (∀ x ∈ keys, x.size ≤ 140737488351232)) ∧ v.np + v.nk ≤ Rows.uptoBulk d
section
variable {H : Type} {enc : TypeId × Value → H} {W : World} {held : Bool}
set_option maxRecDepth 100000 in
theorem one_pair (fuel : Nat) (cs : List Value) (x : DataW H × List MemPlace) (h : DataW.trod enc Tryz.prog W 0 (fun _ => true) held fuel 78 cs = some x) (hw : ∀ n ∈ x.1.weights Tryz.prog 78, n ≤ reachBytes) :
    ∃ p : Pr, cs = PE.enc p ∧ p.2.size ≤ 140737488351232 := by
  obtain ⟨xs, n, _, rfl, hlen, hxl, hfs⟩ := DataW.trod_struct Tryz.underlying78 h
  rw [mcP] at hlen
  match cs, hlen with
  | [c0, c1], _ =>
    have hxl2 : xs.length = 2 := hxl
    match xs, hxl2 with
    | [x0, x1], _ =>
      obtain ⟨s0, e0, z0⟩ := one_text _ _ _ (hfs 0 _ rfl) (each_mem Tryz.underlying78 (j := 0) hw rfl rfl)
      obtain ⟨s1, e1, z1⟩ := one_text _ _ _ (hfs 1 _ rfl) (each_mem Tryz.underlying78 (j := 1) hw rfl rfl)
      have q0 : [c0] = [Value.string s0] := e0
      have q1 : [c1] = [Value.string s1] := e1
      injection q0 with q0 _
      injection q1 with q1 _
      subst q0 q1
      exact ⟨(s0, s1), rfl, z1⟩
set_option maxRecDepth 100000 in
theorem one_op (fuel : Nat) (cs : List Value) (x : DataW H × List MemPlace) (h : DataW.trod enc Tryz.prog W 0 (fun _ => true) held fuel 37 cs = some x) (hw : ∀ n ∈ x.1.weights Tryz.prog 37, n ≤ reachBytes) :
    ∃ v : OV, cs = OE.enc v ∧ OkD W v x.1 := by
  obtain ⟨xs, n, _, rfl, hlen, hxl, hff⟩ := DataW.trod_struct Tryz.underlying37 h
  rw [mcO] at hlen
  obtain ⟨c0, c1, c2, c3, c4, c5, rfl⟩ := list6 hlen
  obtain ⟨y0, y1, y2, y3, y4, y5, rfl⟩ := list6 hxl
  have f0 := hff 0 _ rfl
  have f1 := hff 1 _ rfl
  have f3 := hff 3 _ rfl
  have f4 := hff 4 _ rfl
  have f5 := hff 5 _ rfl
  obtain ⟨kd, e0, _, w0⟩ := DataW.trod_int (k := .i64) Tryz.underlying3 f0
  obtain ⟨i1, e1, _, w1⟩ := DataW.trod_int (k := .u64) Tryz.underlying33 f1
  obtain ⟨y, e2, z2⟩ := one_text _ _ _ (hff 2 _ rfl) (each_mem Tryz.underlying37 (j := 2) hw rfl rfl)
  obtain ⟨ap, np, cp, e3⟩ := is_slice (c := c3) Tryz.underlying34 f3
  obtain ⟨ak, nk, ck, e4⟩ := is_slice (c := c4) Tryz.underlying35 f4
  subst e3 e4
  obtain ⟨now, e5, _, w5⟩ := DataW.trod_int (k := .i64) Tryz.underlying2 f5
  obtain ⟨ps, lp, sp, gp, _, bp, _⟩ := open_listB PE okP p0 (fun p _ => p.2.size ≤ 140737488351232) (fun _ => 0) (fun _ _ _ => Nat.zero_le _) mcP mbP (fun fuel cs x h hw => one_pair fuel cs x h hw) f3 (each_mem Tryz.underlying37 (j := 3) hw rfl rfl)
  obtain ⟨keys, lk, sk, gk, _, bk, _⟩ := open_listB TE okT (⟨#[]⟩ : Tx) (fun p _ => p.size ≤ 140737488351232) (fun _ => 0) (fun _ _ _ => Nat.zero_le _) mc9 mb9 (fun fuel cs x h hw => one_text fuel cs x h hw) f4 (each_mem Tryz.underlying37 (j := 4) hw rfl rfl)
  have q0 : [c0] = [Value.int .i64 kd] := e0
  have q1 : [c1] = [Value.int .u64 i1] := e1
  have q2 : [c2] = [Value.string y] := e2
  have q5 : [c5] = [Value.int .i64 now] := e5
  injection q0 with q0 _
  injection q1 with q1 _
  injection q2 with q2 _
  injection q5 with q5 _
  subst q0 q1 q2 q5
  obtain ⟨i, rfl, hi⟩ := u64_nat w1
  refine ⟨⟨kd, i, y, ap, np, cp, ak, nk, ck, now⟩, rfl, ⟨ps, keys, lp.symm, lk.symm, hi, z2, sp, sk, fun x hx => (gp x hx).elim fun _ h => h, fun x hx => (gk x hx).elim fun _ h => h⟩, ?_⟩
  have bp' : np ≤ Rows.uptoBulk y3.1 := bp
  have bk' : nk ≤ Rows.uptoBulk y4.1 := bk
  simp only [Rows.uptoBulk, Rows.uptoBulkAll, List.map_cons, List.map_nil]
  omega
end
theorem tot_sum : ∀ (l : List OV), tot l ≤ (l.map (fun v => v.np + v.nk)).sum
  | [] => by simp [tot]
  | o :: l => by have := tot_sum l; simp only [tot, List.map_cons, List.sum_cons]; omega
theorem sum_mem : ∀ (l : List OV) (v : OV), v ∈ l → v.np + v.nk ≤ (l.map (fun v => v.np + v.nk)).sum
  | [], v, h => by cases h
  | o :: l, v, h => by
    simp only [List.map_cons, List.sum_cons]
    rcases List.mem_cons.1 h with rfl | h
    · omega
    · have := sum_mem l v h; omega
end Go.Proofs.YtkoaiibjahlnmabGreat
namespace Go.Proofs.YtkoaiibjahlnmabGreat.storePlays
open Go.ChangeShapes Go.WideShapes Go.ChangeAt Go.RowKit
set_option linter.unusedVariables false
set_option linter.unusedSimpArgs false

set_option maxRecDepth 100000 in
theorem contract (H : Type) (enc : TypeId × Value → H) (W : World) (base : Nat) (args : Array Value) (ds gs : List (DataW H)) (before : List MemPlace)
    (hval : ∀ (j : Nat) t v, Tryz.f3.params[j]? = some t → args[j]? = some v → Value.okWide Tryz.prog W .any base t v)
    (hW : DataW.Whole enc Tryz.prog Tryz.f3.params.toList Rows.storePlaysSpec.vars false W args.toList ds gs before)
    (hk : Rows.uptoSmall H (ds ++ gs) = true)
    (hsz : (DataW.weightsEach Tryz.prog (Tryz.f3.params.toList ++ Rows.storePlaysSpec.plain.varTypes Tryz.prog) (ds ++ gs)).all (· ≤ reachBytes) = true) :
    Calls Tryz.prog 3 args W fun e W' => ∃ v, e = .returned v ∧ Rows.storePlaysSpec.post enc Tryz.prog Tryz.f3 false true false false W args v W' := by
  have hW' := hW
  obtain ⟨p, q, hA0, hV, rfl, hfz, hnd⟩ := hW
  have hA : DataW.TrodAll enc Tryz.prog W 0 (fun _ => true) true Tryz.f3.params.toList args.toList ds p := hA0
  rw [Tryz.params3] at hA hval hsz
  obtain ⟨v0, vs0, d0, ds0, p0, q0, hargs, rfl, rfl, h0, r0⟩ := trodAll_cons hA
  obtain ⟨rfl, rfl, rfl⟩ := trodAll_nil r0
  obtain rfl : args = #[v0] := by cases args; exact congrArg Array.mk hargs
  obtain ⟨rfl, rfl⟩ := trodVars_none hV
  have hB : Rows.uptoBulkAll [d0] ≤ 1048576 := by
    have := of_decide_eq_true hk
    simpa using this
  simp only [Rows.uptoBulkAll] at hB
  have k0 := h0
  have lt0 : ∀ x ∈ p0, x.block < W.heap.size := by obtain ⟨m, hm⟩ := k0; exact DataW.trod_lt m _ _ _ hm
  obtain ⟨a0, len0, cap0, rfl⟩ := okWide_slice Tryz.underlying22 (hval 0 22 v0 rfl rfl)
  obtain ⟨fuel0, hf0⟩ := h0
  obtain ⟨l0, hl0, hs0, hok0, _, hb0, hsum⟩ := open_listB OE okO ov0 (OkD W) (fun v => v.np + v.nk) (fun p d h => h.2) mcO mbO (fun fuel cs x h hw => one_op fuel cs x h hw) hf0 (fun n hn => by have := List.all_eq_true.1 hsz n (DataW.weights_mem_each (j := 0) rfl rfl n hn); simpa using this)
  have hb0' : len0 ≤ Rows.uptoBulk d0 := hb0
  have hsum' : (l0.map (fun v => v.np + v.nk)).sum ≤ Rows.uptoBulk d0 := hsum
  have hok2 : ∀ v ∈ l0, ∃ ps keys, OkOp W v ps keys := fun v hv => by
    obtain ⟨d, ⟨ps, keys, q1, q2, q3, q4, q5, q6, q7, q8⟩, _⟩ := hok0 v hv
    have := sum_mem l0 v hv
    exact ⟨ps, keys, q1, q2, q3, q4, q5, q6, q7, q8, by omega, by omega⟩
  have htot := tot_sum l0
  clear hA0
  refine (storePlays_any W a0 len0 cap0 l0 hl0.symm hs0 hok2 (by omega) (by omega)).mono fun e W' ⟨he, hkp⟩ => ?_
  subst he
  have bel : Below W.heap.size W W' := hkp.below (Nat.le_refl _) (fun _ h => h.elim)
  exact ⟨_, rfl, _, _, _, [], _, [], hW', trodAll_mk1 (shut_bool Tryz.underlying4 _), (trodAll_cons_mk (Below.trod laidOut (by kernel_rfl) (of_decide_eq_true (by kernel_rfl)) k0 bel lt0) trodAll_mk0), rfl, bel.frame _, fun h => by cases h⟩

noncomputable def aWorld (os : Os) : World := World.holding Tryz.prog os ⟨#[], #[], []⟩
theorem laid_met (os : Os) : laidMet Tryz.prog Rows.storePlaysUptoRow.laid ((aWorld os).forCall (fun _ _ => 0) ⟨#[], #[.slice none 0 0], []⟩).memory :=
  laidMet_of_run' 8 (by kernel_rfl) (by kernel_rfl)
theorem reads (os : Os) {H : Type} (enc : TypeId × Value → H) : ∃ places, DataW.whole enc Tryz.prog ((aWorld os).forCall (fun _ _ => 0) ⟨#[], #[.slice none 0 0], []⟩).memory Tryz.f3.params.toList Rows.storePlaysSpec.vars false #[Value.slice none 0 0].toList 8 = some ([.nil], [], places) :=
  ⟨[], by kernel_rfl⟩

set_option maxRecDepth 100000 in
theorem lifted (os : Os) (started : os.Started) (H : Type) (enc : TypeId × Value → H) (F : Stop.Interp) :
    ReturnsInHanded {} Tryz.checked os 3 .any ((Rows.OpenSpec.upto Rows.storePlaysSpec).preRow enc Tryz.prog Tryz.f3 Rows.storePlaysUptoRow.domain false Rows.storePlaysUptoRow.laid) (((Rows.OpenSpec.upto Rows.storePlaysSpec).at F).post enc Tryz.prog Tryz.f3 false true false false) := by
  obtain ⟨places, hx⟩ := reads os enc
  refine returnsInHanded_of_row (C := Tryz.checked) (s := Rows.OpenSpec.upto Rows.storePlaysSpec) own started (by kernel_rfl) Tryz.func3
    (witness_row_at (enc := enc) (C := Tryz.checked) false (aWorld os) #[.slice none 0 0] rfl (by kernel_rfl) (by kernel_rfl) (by kernel_rfl)
      (OpenSpec.preRow_of_cond 8 hx (by kernel_rfl) (fun k hk => by cases hk; rfl) (by kernel_rfl) (laid_met os))) ?_
  intro W base args ds gs before hval hW _ hk hsz _ _ _
  exact contract H enc W base args ds gs before hval hW (hk _ rfl) hsz

theorem proved : Rows.StorePlaysUptoSaid :=
  OpenClaim.holds_of_cond 3 Tryz.f3 rfl rfl rfl rfl rfl rfl rfl ⟨rfl, rfl, rfl, rfl, rfl⟩ rfl rfl rfl rfl rfl (by kernel_rfl) Tryz.func3 (by kernel_rfl)
    (of_decide_eq_true (by kernel_rfl)) (by unfold Func.isWrapper; first | (rw [if_pos (by decide +kernel)]; kernel_rfl) | (rw [if_neg (by decide +kernel)]; exact ⟨rfl, rfl⟩))
    (fun os started H enc _ F => by rw [OpenClaim.pre_eq_preRow]; exact lifted os started H enc F)
end Go.Proofs.YtkoaiibjahlnmabGreat.storePlays
