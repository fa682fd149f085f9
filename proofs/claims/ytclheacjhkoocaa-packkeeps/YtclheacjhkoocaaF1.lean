import Derived.Test.YtclheacjhkoocaaR4
namespace Go.Proofs.Ytclheacjhkoocaa
open Go.RowKit
open Pk
set_option linter.unusedVariables false
set_option linter.unusedSimpArgs false

theorem num_get (K : Nat) : ∀ (v j : Nat), j < K → (num K v)[j]? = some (v / 256 ^ (K - 1 - j) % 256) := by
  induction K with
  | zero => intro v j h; omega
  | succ K ih =>
    intro v j h
    unfold num
    by_cases hj : j < K
    · rw [List.getElem?_append_left (by rw [num_length]; exact hj), ih _ _ hj]
      congr 2
      rw [Nat.div_div_eq_div_mul, show K + 1 - 1 - j = (K - 1 - j) + 1 by omega, Nat.pow_succ, Nat.mul_comm]
    · obtain rfl : j = K := by omega
      rw [List.getElem?_append_right (by rw [num_length]; omega), num_length]
      simp
theorem num_snoc (K v k : Nat) (h : k < K) : (num K v).take (k + 1) = (num K v).take k ++ [v / 256 ^ (K - 1 - k) % 256] := by
  have := num_get K v k h
  rw [List.take_add_one, this]
  rfl

set_option maxRecDepth 10000 in
theorem refNumber_any (w : World) (v K : Nat) (hv : v < 18446744073709551616) (hK : K ≤ 8) :
    Calls Try.prog 67 #[.int .u64 (v : Nat), .int .i64 (K : Nat)] w (fun e w' => ∃ o' c' n', e = .returned (.slice o' n' c') ∧ Hid (n' = K) ∧ Owns w' o' c' (num K v) ∧ (∀ k, inO o' k → w.heap.size ≤ k) ∧ Keeps (fun _ => False) w w') := by
  go_enter Try.func67, Try.ntmps67
  go_wp2_with fail
  go_loopw [5, 6] (fun l i wr => ∃ (k : Nat) (oL : Option Addr) (cL : Nat), k ≤ K ∧ i = .int .i64 ((K : Int) - 1 - k) ∧ l = .slice oL k cL ∧ Owns wr oL cL ((num K v).take k) ∧ (∀ x, inO oL x → w.heap.size ≤ x) ∧ Keeps (fun _ => False) w wr) (fun _ i _ => (intOf i + 1).toNat)
  case atStart => exact ⟨0, none, 0, by omega, by go_num, rfl, owns_nil _, fun x ⟨y, h, _⟩ => (by cases h), Keeps.refl _ _⟩
  case round =>
    obtain ⟨k, oL, cL, hk, rfl, rfl, hown, hnew, hKw⟩ := hrel
    by_cases h2 : k < K
    · obtain ⟨q, hKq⟩ : ∃ q, K = k + 1 + q := ⟨K - k - 1, by omega⟩
      rw [show ((K : Int) - 1 - (k : Int)) = (q : Nat) by omega]
      have hq : q ≤ 7 := by omega
      have HKQ : Hid (K = k + 1 + q) := hKq
      have HE : Hid ((num K v).take (k + 1) = (num K v).take k ++ [v / 256 ^ q % 256]) := by
        have := num_snoc K v k (by omega)
        rw [show K - 1 - k = q by omega] at this
        exact this
      have hlt : ((num K v).take k).length = k := by rw [List.length_take, num_length]; omega
      have hrow := row_lit wr [v / 256 ^ q % 256] (by intro c hc; simp at hc; omega) (by simp)
      have e1 : (vals [v / 256 ^ q % 256]).toArray = #[.int .u8 ((v : Int) / 2 ^ (8 * q) % 256)] := by
        have h8 : (256 : Int) ^ q = 2 ^ (8 * q) := by
          have h : (256 : Nat) ^ q = 2 ^ (8 * q) := by rw [Nat.pow_mul]
          exact_mod_cast h
        simp [vals, h8]
      rw [e1] at hrow
      have HL : Hid (((num K v).take k).length = k) := hlt
      have HNW : Hid (∀ x, inO oL x → w.heap.size ≤ x) := hnew
      clear e1 hlt hnew hKq
      go_wp2_with (at_builtin; go_must (refine wpList_app rfl _ _ rfl oL _ cL ((num K v).take k) (by rfl) HL.out.symm (hown.alloc _) (some ⟨wr.heap.size, 0, none⟩) 1 1 [v / 256 ^ q % 256] (by rfl) rfl (by simp) hrow (by omega) ?_); rintro o3 c3 w3 hown3 hfr3 hk3)
      go_roundw
      case rel =>
        have hKq := HKQ.out
        refine ⟨k + 1, o3, c3, by omega, by rw [hKq]; go_num, rfl, by rw [HE.out]; exact hown3, ?_, (hKw.alloc _).then hk3 (fun i hi => .inr (HNW.out i hi))⟩
        intro x hx
        rcases hfr3.in x hx with h' | h'
        · exact HNW.out x h'
        · have := hKw.size; simp at h'; omega
      case measure => simp [intOf]
    · go_wp2
      go_ret
      obtain rfl : k = K := by omega
      refine ⟨oL, cL, k, rfl, rfl, ?_, hnew, hKw⟩
      rw [List.take_of_length_le (by rw [num_length]; omega)] at hown
      exact hown

/-- slices of the call's own, read -/
theorem Owns.sl {w : World} {o : Option Addr} {c : Nat} {bs : List Nat} (h : Owns w o c bs) (hby : ∀ c ∈ bs, c < 256) (hl : bs.length ≤ 9223372036854775807) : Sl w o c bs := ⟨h.row hby hl, h.cap.1, h.cap.2⟩

set_option maxRecDepth 10000 in
theorem refLay_any (w : World) (a : Nat) (o : Option Addr) (c L : Nat) (bs : List Nat) (e0 : Nat) (ob : Option Addr) (nb cb : Nat) (news : List Nat) (hnb : nb = news.length) (hnl : news.length ≤ 140737488355328) (hsl : Sl w ob cb news) (hap : ∀ k, inO ob k → ¬ footW a o k) (h : IsW 85 w a o c L bs e0) (hlid : (lay L (bs, e0) news).1.length ≤ 140737488355328) :
    Calls Try.prog 66 #[.pointer (some ⟨a, 0, none⟩), .slice ob nb cb] w fun e w' => e = .returned (.tuple #[]) ∧ WStep 85 w a o L (lay L (bs, e0) news) w' := by
  have HLID : Hid ((lay L (bs, e0) news).1.length ≤ 140737488355328) := hlid
  clear hlid
  subst hnb
  have hfit0 := h.fit
  have hlim := h.lim
  have c0 : w.cell? ⟨a, 0, none⟩ = some (.int .i64 (L : Nat)) := cell_of_blk h.blk 0
  have c1 : w.cell? ⟨a, 1, none⟩ = some (.slice o bs.length c) := cell_of_blk h.blk 1
  have c2 : w.cell? ⟨a, 2, none⟩ = some (.int .i64 (e0 : Nat)) := cell_of_blk h.blk 2
  have f2 : w.frozen? ⟨a, 2, none⟩ = false := frozen_of_blk h.blk 2
  by_cases he : e0 = 0
  · subst he
    by_cases hs : L < bs.length + news.length
    · have hs' : (L : Int) - bs.length < news.length := by omega
      go_enter Try.func66, Try.ntmps66
      go_wp2
      go_quiet (fail)
      go_wp2
      refine bodyPost_ret (results_none rfl _ _ _) rfl ?_
      rw [lay_long _ _ _ hs]
      have hk := keeps_drewN (fun k => k = a) w nq
      have hkk := hk.trans (keeps_set (w.drewN nq) a 2 (.int .i64 3))
      refine ⟨rfl, o, c, ⟨?_, ?_, h.ap, h.fit, h.lim, h.byt, h.lid, by show 3 ≤ 5; omega⟩, .inl rfl, hkk.mono (fun i hi => .inl hi)⟩
      · have hb : (w.drewN nq).heap[a]? = w.heap[a]? := rfl
        rw [blk_set (hb.trans h.blk)]; rfl
      · exact h.row.keeps hkk (fun k hk e => h.ap (e ▸ hk))
    · have hs' : ¬ (L : Int) - bs.length < news.length := by omega
      have hfit' : Hid (bs.length + news.length ≤ L) := Nat.not_lt.mp hs
      have hb : Hid (bs.length + news.length ≤ 140737488355328) := lay_lid HLID.out rfl hfit'.out
      go_enter Try.func66, Try.ntmps66
      go_wp2
      go_quiet (fail)
      have hh : IsW 85 (w.drewN nq) a o c L bs 0 := h.keeps (keeps_drewN (fun _ => False) w nq) (fun _ _ h => h)
      have hslq := hsl.drewN nq
      go_wp2_with (at_builtin; go_must (refine wpList_app rfl _ _ rfl o _ c bs (by rfl) rfl hh.row ob _ cb news (by rfl) rfl hsl.nil hslq.row hb.out ?_); rintro o1 c1' w1 hown1 hfr1 hk1; have hb1 := hk1.at hh.blk hh.ap; have f1 : w1.frozen? ⟨a, 1, none⟩ = false := frozen_of_blk hb1 1; obtain ⟨v1, c1⟩ : ∃ v, w1.cell? ⟨a, 1, none⟩ = some v := ⟨_, cell_of_blk hb1 1⟩)
      go_end0
      obtain ⟨hW, hK⟩ := hh.put hk1 hown1 hfr1 (by rw [List.length_append]; exact hfit'.out) (app_lt h.byt hsl.row.1) (by rw [List.length_append]; exact hb.out) (bs.length + news.length) (by rw [List.length_append])
      rw [lay_fits _ _ _ hfit'.out]
      exact ⟨rfl, o1, c1', hW, hfr1, (keeps_drewN (footW a o) w nq).trans hK⟩
  · have he' : ¬ ((e0 : Nat) : Int) = 0 := by omega
    go_enter Try.func66, Try.ntmps66
    go_wp2
    refine bodyPost_ret (results_none rfl _ _ _) rfl ?_
    rw [lay_err _ _ _ _ he]
    exact ⟨rfl, o, c, h, .inl rfl, Keeps.refl _ _⟩
end Go.Proofs.Ytclheacjhkoocaa
