import Derived.Test.YtclheacjhkoocaaBy
import Derived.Test.YtclheacjhkoocaaK5
import Derived.Deep.DeepHandedRow
import Derived.Lib.LaidTab
namespace Go.Proofs.Ytclheacjhkoocaa.packKeeps
open Go.ChangeShapes Go.WideShapes Go.ChangeAt Go.RowKit
open Pk
set_option linter.unusedVariables false
set_option linter.unusedSimpArgs false

theorem weightsAll_mem {H : Type} {P : Program} {e : TypeId} : ∀ {l : List (DataW H)} {d : DataW H}, d ∈ l → ∀ n ∈ d.weights P e, n ∈ DataW.weightsAll P e l := by
  intro l
  induction l with
  | nil => intro d h; cases h
  | cons x l ih =>
    intro d h n hn
    simp only [DataW.weightsAll, List.mem_append]
    rcases List.mem_cons.mp h with rfl | h
    · exact .inl hn
    · exact .inr (ih h n hn)
theorem bytes34 : Try.prog.bytesOf 34 = 72 := by kernel_rfl
theorem bytes9 : Try.prog.bytesOf 9 = 16 := by kernel_rfl
theorem str_len (s : ByteArray) : s.data.toList.length = s.size := by rw [Array.length_toList]; rfl

/-- the sizes paid by the reach -/
theorem sized {H : Type} {w : World} {o : Option Addr} {cap : Nat} {ps : List OpV} {d : DataW H} (h : ScriptB w o cap ps d) (hsz : ∀ n ∈ d.weights Try.prog 22, n ≤ reachBytes) :
    Script w o ps ∧ (∀ p ∈ ps, (p.ss.length + 2) * 16 ≤ 140737488355328) := by
  have hr : reachBytes = 140737488351232 := by decide
  rcases h.dat with ⟨rfl, rfl⟩ | ⟨ds, rest, rfl, hl, hc, hd⟩
  · exact ⟨⟨.inl rfl, (fun p hp => by cases hp), by simp⟩, (fun p hp => by cases hp)⟩
  · have hw : (DataW.slice ds rest).weights Try.prog 22 = (ds.length + rest.length) * Try.prog.bytesOf 34 :: (DataW.weightsAll Try.prog 34 ds ++ DataW.weightsAll Try.prog 34 rest) := by
      simp only [DataW.weights, Try.underlying22]
    rw [hw] at hsz
    have h0 := hsz _ (List.mem_cons_self)
    rw [bytes34] at h0
    have each : ∀ p ∈ ps, p.s.size ≤ 140737488351232 ∧ p.ss.length * 16 ≤ 140737488351232 ∧ ∀ s ∈ p.ss, s.size ≤ 140737488351232 := by
      intro p hp
      obtain ⟨j, hj, rfl⟩ := List.getElem_of_mem hp
      obtain ⟨dL, h1, h2⟩ := hd j hj
      have eg : ps.getD j op0 = ps[j] := by simp [hj]
      rw [eg] at h1 h2
      have hm := List.mem_of_getElem? h1
      have hall : ∀ n ∈ (dOp ps[j] dL).weights Try.prog 34, n ≤ reachBytes := fun n hn => hsz n (List.mem_cons_of_mem _ (List.mem_append_left _ (weightsAll_mem hm n hn)))
      have hagg : (DataW.weightsEach Try.prog [3, 31, 9, 32, 3, 3] [.lit (.int .i64 ps[j].kind), .lit (.int .u64 (ps[j].v : Nat)), dStr ps[j].s, dL, .lit (.int .i64 ps[j].N), .lit (.int .i64 ps[j].M)]).all (· ≤ reachBytes) = true := by
        rw [List.all_eq_true]
        intro n hn
        have := hall n (by
          simp only [dOp, DataW.weights, Try.underlying34]
          exact hn)
        simpa using this
      have s1 := sized_string hagg (j := 2) (t := 9) (bytes := ps[j].s.data.toList) rfl rfl
      rw [str_len] at s1
      refine ⟨by omega, ?_, ?_⟩
      · rcases h2 with ⟨_, e⟩ | ⟨rst, e, _⟩
        · rw [e]; simp
        · have := sized_slice hagg (j := 3) (t := 32) (e := 9) (elems := ps[j].ss.map dStr) (spare := rst) rfl (by rw [e]; rfl) Try.underlying32
          rw [bytes9] at this
          simp at this
          omega
      · intro s hs
        rcases h2 with ⟨_, e⟩ | ⟨rst, e, _⟩
        · rw [e] at hs; cases hs
        · rw [List.all_eq_true] at hagg
          have hin : s.size ∈ DataW.weightsEach Try.prog [3, 31, 9, 32, 3, 3] [.lit (.int .i64 ps[j].kind), .lit (.int .u64 (ps[j].v : Nat)), dStr ps[j].s, dL, .lit (.int .i64 ps[j].N), .lit (.int .i64 ps[j].M)] := by
            refine DataW.weights_mem_each (j := 3) (t := 32) (d := dL) rfl rfl _ ?_
            rw [e]
            simp only [DataW.weights, Try.underlying32]
            refine List.mem_cons_of_mem _ (List.mem_append_left _ (weightsAll_mem (List.mem_map_of_mem hs) _ ?_))
            simp only [dStr, DataW.weights]
            rw [str_len]
            exact List.mem_cons_self
          have := hagg _ hin
          simp at this
          omega
    refine ⟨⟨h.row, fun p hp => ?_, by omega⟩, fun p hp => by have := (each p hp).2.1; omega⟩
    have hk := h.ok p hp
    obtain ⟨e1, e2, e3⟩ := each p hp
    have hcp := hk.cap
    refine ⟨hk.k1, hk.k2, hk.v1, e1, hk.row, fun k hi h0 => hk.live k hi ?_, hk.nil, hk.cap, e2, e3, hk.n1, hk.n2, hk.m1, hk.m2⟩
    have : p.ss.length ≠ 0 := fun e => h0 (List.length_eq_zero_iff.mp e)
    omega

theorem contract (H : Type) (enc : TypeId × Value → H) (W : World) (base : Nat) (args : Array Value) (ds gs : List (DataW H)) (before : List MemPlace)
    (hval : ∀ (j : Nat) t v, Try.f3.params[j]? = some t → args[j]? = some v → Value.okWide Try.prog W .any base t v)
    (hW : DataW.Whole enc Try.prog Try.f3.params.toList Rows.packKeepsSpec.vars false W args.toList ds gs before) 
    (hsz : (DataW.weightsEach Try.prog (Try.f3.params.toList ++ Rows.packKeepsSpec.plain.varTypes Try.prog) (ds ++ gs)).all (· ≤ reachBytes) = true) :
    Calls Try.prog 3 args W fun e W' => ∃ v, e = .returned v ∧ Rows.packKeepsSpec.post enc Try.prog Try.f3 false true false false W args v W' := by
  have hW' := hW
  obtain ⟨p, q, hA0, hV, rfl, hfz, hnd⟩ := hW
  have hA : DataW.TrodAll enc Try.prog W 0 (fun _ => true) true Try.f3.params.toList args.toList ds p := hA0
  rw [Try.params3] at hA hval hsz
  obtain ⟨v0, vs0, d0, ds0, p0, q0, hargs, rfl, rfl, h0, r0⟩ := trodAll_cons hA
  obtain ⟨v1, vs1, d1, ds1, p1, q1, rfl, rfl, rfl, h1, r1⟩ := trodAll_cons r0
  obtain ⟨rfl, rfl, rfl⟩ := trodAll_nil r1
  obtain rfl : args = #[v0, v1] := by cases args; simp_all
  obtain ⟨rfl, rfl⟩ := trodVars_none hV
  obtain ⟨a, len, cap, rfl⟩ := okWide_slice Try.underlying22 (hval 0 22 v0 rfl rfl)
  have k0 := h0
  have lt0 : ∀ x ∈ p0, x.block < W.heap.size := by obtain ⟨m, hm⟩ := k0; exact DataW.trod_lt m _ _ _ hm
  obtain ⟨fuel, hf⟩ := h0
  obtain ⟨ps, rfl, hsB⟩ := open_script hf
  have hw0 : ∀ n ∈ d0.weights Try.prog 22, n ≤ reachBytes := fun n hn => by
    have := List.all_eq_true.1 hsz n (DataW.weights_mem_each (j := 0) (t := 22) (d := d0) rfl rfl n hn)
    simpa using this
  obtain ⟨hs, hls⟩ := sized hsB hw0
  obtain ⟨a1, len1, cap1, rfl⟩ := okWide_slice Try.underlying23 (hval 1 23 v1 rfl rfl)
  have k1 := h1
  have lt1 : ∀ x ∈ p1, x.block < W.heap.size := by obtain ⟨m, hm⟩ := k1; exact DataW.trod_lt m _ _ _ hm
  obtain ⟨fuel1, hf1⟩ := h1
  obtain ⟨bs, rfl, hrow, hlc, hnil, hd⟩ := open_bytes2 hf1
  have hcap1 : cap1 ≤ 140737488351232 := by
    rcases hd with ⟨_, h⟩ | ⟨elems, spare, h, hlen⟩
    · omega
    · simp only at h
      subst h
      have := sized_slice hsz (j := 1) (t := 23) (e := 5) rfl rfl Try.underlying23
      rw [bytes5, hlen] at this
      simp only [reachBytes] at this
      omega
  clear hA0
  refine (packKeeps_all W a cap ps hs a1 cap1 bs ⟨hrow, hlc, hnil⟩ (by omega) hls).mono fun e W' ⟨he, hkp⟩ => ?_
  subst he
  have bel : Below W.heap.size W W' := hkp.below (Nat.le_refl _) (fun _ h => h.elim)
  exact ⟨_, rfl, _, _, _, [], _, [], hW', trodAll_mk1 (shut_bool Try.underlying4 _), (trodAll_cons_mk (Below.trod laidOut (by kernel_rfl) (of_decide_eq_true (by kernel_rfl)) k0 bel lt0) (trodAll_cons_mk (Below.trod laidOut (by kernel_rfl) (of_decide_eq_true (by kernel_rfl)) k1 bel lt1) trodAll_mk0)), rfl, bel.frame _, fun h => by cases h⟩

noncomputable def aWorld (os : Os) : World := World.holding Try.prog os ⟨#[], #[], []⟩
theorem laid_met (os : Os) : laidMet Try.prog Rows.packKeepsRow.laid ((aWorld os).forCall (fun _ _ => 0) ⟨#[], #[.slice none 0 0, .slice none 0 0], []⟩).memory :=
  laidMet_of_run' 8 (by kernel_rfl) (by kernel_rfl)
theorem reads (os : Os) {H : Type} (enc : TypeId × Value → H) : ∃ places, DataW.whole enc Try.prog ((aWorld os).forCall (fun _ _ => 0) ⟨#[], #[.slice none 0 0, .slice none 0 0], []⟩).memory Try.f3.params.toList Rows.packKeepsSpec.vars false #[Value.slice none 0 0, .slice none 0 0].toList 8 = some ([.nil, .nil], [], places) :=
  ⟨[], by kernel_rfl⟩

set_option maxRecDepth 100000 in
theorem lifted (os : Os) (started : os.Started) (H : Type) (enc : TypeId × Value → H) (F : Stop.Interp) :
    ReturnsInHanded {} Try.checked os 3 .any ((OpenSpec.ofChange Rows.packKeepsSpec).preRow enc Try.prog Try.f3 Rows.packKeepsRow.domain false Rows.packKeepsRow.laid) (((OpenSpec.ofChange Rows.packKeepsSpec).at F).post enc Try.prog Try.f3 false true false false) := by
  obtain ⟨places, hx⟩ := reads os enc
  refine returnsInHanded_of_row (C := Try.checked) (s := OpenSpec.ofChange Rows.packKeepsSpec) own started (by kernel_rfl) Try.func3
    (witness_row_at (enc := enc) (C := Try.checked) false (aWorld os) #[.slice none 0 0, .slice none 0 0] rfl (by kernel_rfl) (by kernel_rfl) (by kernel_rfl)
      (OpenSpec.preRow_of_cond 8 hx (by kernel_rfl) (fun k hk => by cases hk) (by kernel_rfl) (laid_met os))) ?_
  intro W base args ds gs before hval hW _ _ hsz _ _ _
  exact contract H enc W base args ds gs before hval hW hsz

theorem proved : Rows.PackKeepsSaid :=
  OpenClaim.holds_of_cond 3 Try.f3 rfl rfl rfl rfl rfl rfl rfl ⟨rfl, rfl, rfl, rfl, rfl⟩ rfl rfl rfl rfl rfl (by kernel_rfl) Try.func3 (by kernel_rfl)
    (of_decide_eq_true (by kernel_rfl)) (by unfold Func.isWrapper; first | (rw [if_pos (by decide +kernel)]; kernel_rfl) | (rw [if_neg (by decide +kernel)]; exact ⟨rfl, rfl⟩))
    (fun os started H enc _ F => by rw [OpenClaim.pre_eq_preRow]; exact lifted os started H enc F)
end Go.Proofs.Ytclheacjhkoocaa.packKeeps
