/- WalKeeps: what the disk holds along any calls, in pure lists. -/
import Derived.Test.YtgamhblkgojapaaDoorGT1
namespace Go.Proofs.YtgamhblkgojapaaDoor
open Go.RowKit Pk Dk
set_option linter.unusedVariables false
set_option linter.unusedSimpArgs false

/-- the file: the records that are there, and perhaps a beginning of one -/
def FileOf (x : Option Fl) (D : List Rec) (t : List Nat) : Prop := (x = none ∧ D = [] ∧ t = []) ∨ x = some (fl (rb D ++ u8s t))
/-- what is torn is a beginning of the last record -/
def Begin : Option Rec → List Nat → Prop
  | none, t => t = []
  | some r, t => Gd r ∧ ∃ k, t = (enc r).take k
structure KInv (n : Nm) (s : St) (D : List Rec) (la : Option Rec) (t : List Nat) : Prop where
  ex : ∃ x off ref calls keep, s = sg n x off ref calls keep ∧ FileOf x D t ∧ -1 ≤ calls
  on : s.off = false → la = none
  pre : Begin la t
  gd : Gds D
theorem KInv.new (n : Nm) : KInv n Dk.new [] none [] := ⟨⟨none, false, 0, -1, 0, rfl, .inl ⟨rfl, rfl, rfl⟩, by decide⟩, fun _ => rfl, rfl, gds_nil⟩
theorem u8s_nil : u8s [] = [] := rfl
theorem KInv.arm {n : Nm} {s : St} {D : List Rec} {la : Option Rec} {t : List Nat} (h : KInv n s D la t) (c k : Int) : KInv n (arm c k s) D la t := by
  obtain ⟨⟨x, off, ref, calls, keep, rfl, hf, hc⟩, ho, hp, hg⟩ := h
  exact ⟨⟨x, off, ref, max c (-1), k, rfl, hf, by omega⟩, ho, hp, hg⟩
theorem KInv.full {n : Nm} {s : St} {D : List Rec} {la : Option Rec} {t : List Nat} (h : KInv n s D la t) (k : Int) : KInv n (full k s) D la t := by
  obtain ⟨⟨x, off, ref, calls, keep, rfl, hf, hc⟩, ho, hp, hg⟩ := h
  exact ⟨⟨x, off, k.toNat, calls, keep, rfl, hf, hc⟩, ho, hp, hg⟩
theorem FileOf.crash {x : Option Fl} {D : List Rec} (h : FileOf x D []) (k : Int) : x.map (crF k) = x := by
  rcases h with ⟨rfl, _, _⟩ | rfl
  · rfl
  · rw [Option.map_some, crF_fl]
theorem KInv.crash {n : Nm} {s : St} {D : List Rec} {la : Option Rec} {t : List Nat} (h : KInv n s D la t) (k : Int) : KInv n (crash k s) D la t := by
  obtain ⟨⟨x, off, ref, calls, keep, rfl, hf, hc⟩, ho, hp, hg⟩ := h
  cases off with
  | true => exact ⟨⟨x, true, ref, calls, keep, sg_crash_off .., hf, hc⟩, fun h => by rw [sg_crash_off] at h; exact ho h, hp, hg⟩
  | false =>
    have hl := ho rfl
    subst hl
    have ht : t = [] := hp
    subst ht
    exact ⟨⟨x, true, ref, -1, keep, by rw [sg_crash, hf.crash], hf, by decide⟩, fun _ => rfl, rfl, hg⟩
theorem KInv.tick {n : Nm} {s : St} {D : List Rec} {la : Option Rec} {t : List Nat} (h : KInv n s D la t) : KInv n (tick s) D la t := by
  have h0 := h
  obtain ⟨⟨x, off, ref, calls, keep, rfl, hf, hc⟩, ho, hp, hg⟩ := h
  by_cases h1 : calls = 0
  · subst h1
    rw [sg_tick0]
    exact h0.crash keep
  · by_cases h2 : 0 < calls
    · rw [sg_tickP _ _ _ _ _ h2]
      exact ⟨⟨x, off, ref, calls - 1, keep, rfl, hf, by omega⟩, ho, hp, hg⟩
    · have : calls = -1 := by omega
      subst this
      exact h0
/-- Size, the power on or just gone -/
theorem KInv.size {n : Nm} {s : St} {D : List Rec} (h : KInv n s D none []) : (readE n s = 62) ∨ (readE n s = 0 ∧ (readB n s).length = (rowb D).length) ∨ (readE n s = 61 ∧ D = []) := by
  obtain ⟨⟨x, off, ref, calls, keep, rfl, hf, hc⟩, ho, hp, hg⟩ := h
  cases off with
  | true => left; rfl
  | false =>
    rcases hf with ⟨rfl, rfl, _⟩ | rfl
    · right; right
      refine ⟨?_, rfl⟩
      unfold readE
      rw [sg_find]
      rfl
    · right; left
      refine ⟨sg_readE .., ?_⟩
      rw [sg_readB]
      simp only [bsX, fl, u8s_nil, List.append_nil, rb_len]
/-- Append: taken, refused, or the power gone -/
inductive KApp (n : Nm) (s' : St) (D : List Rec) (r : Rec) : Int → Prop
  | done (h : KInv n s' (D ++ [r]) none []) (ho : s'.off = false) : KApp n s' D r 0
  | down (t : List Nat) (h : KInv n s' D (some r) t) (ho : s'.off = true) : KApp n s' D r 62
  | full (h : KInv n s' D none []) (ho : s'.off = false) : KApp n s' D r 60
theorem app_tick {n : Nm} {x : Option Fl} {ref : Nat} {calls keep : Int} {D : List Rec} {b : List UInt8} (hn : good n = true) (hf : FileOf x D []) (hb : 0 < b.length) :
    appendOn n b (sg n x false ref calls keep) = if 0 < ref then (sg n x false (ref - 1) calls keep, 60) else (sg n (some ⟨rb D ++ b, (rb D).length⟩) false ref calls keep, 0) := by
  have hl := len_fx n x
  unfold appendOn
  rw [if_pos hn]
  by_cases hr : 0 < ref
  · have hnr : noRoom b (sg n x false ref calls keep) = true := by unfold noRoom sg; simp [hb, hr]
    rw [if_pos hr, hnr, sg_find]
    cases x with
    | none => simp only [sg, fx, List.length_nil]; rfl
    | some f => rfl
  · have hnr : noRoom b (sg n x false ref calls keep) = false := by unfold noRoom sg; simp; omega
    rw [if_neg hr, hnr, sg_find]
    rcases hf with ⟨rfl, rfl, _⟩ | rfl
    · show (lay1 n _ (sg n none false ref calls keep), (0 : Int)) = _
      rw [sg_lay]
      rfl
    · show (lay1 n _ (sg n _ false ref calls keep), (0 : Int)) = _
      rw [sg_lay, u8s_nil, List.append_nil]
      rfl
theorem KInv.apd {n : Nm} {s : St} {D : List Rec} {la : Option Rec} {t : List Nat} (h : KInv n s D la t) (ho : s.off = false) (hn : good n = true) {r : Rec} (hr : Gd r) : KApp n (apd n r s).1 D r (apd n r s).2 := by
  obtain ⟨⟨x, off, ref, calls, keep, rfl, hf, hc⟩, hon, hp, hg⟩ := h
  have hof : off = false := ho
  subst hof
  have hl := hon rfl
  subst hl
  have ht : t = [] := hp
  subst ht
  have hb : 0 < (u8s (enc r)).length := by rw [u8s_length]; have := enc_pos r; omega
  by_cases h1 : calls = 0
  · subst h1
    have e : counted (sg n x false ref 0 keep) (appendOn n (u8s (enc r))) = (sg n x true ref (-1) keep, 62) := by
      show (if (Dk.crash keep (sg n x false ref 0 keep)).off then (Dk.crash keep (sg n x false ref 0 keep), (62 : Int)) else _) = _
      rw [sg_crash, hf.crash]
      rfl
    rw [apd_one hr.encE (by rw [e]; show (62 : Int) ≠ 0; decide), e]
    exact .down [] ⟨⟨x, true, ref, -1, keep, rfl, hf, by decide⟩, fun h => (by cases h), ⟨hr, 0, by simp⟩, hg⟩ rfl
  · obtain ⟨c1, hc1, ht1⟩ : ∃ c1 : Int, -1 ≤ c1 ∧ Dk.tick (sg n x false ref calls keep) = sg n x false ref c1 keep := by
      by_cases h2 : 0 < calls
      · exact ⟨calls - 1, by omega, sg_tickP _ _ _ _ _ h2⟩
      · have : calls = -1 := by omega
        subst this
        exact ⟨-1, by omega, rfl⟩
    have e : counted (sg n x false ref calls keep) (appendOn n (u8s (enc r))) = appendOn n (u8s (enc r)) (sg n x false ref c1 keep) := by
      unfold counted
      rw [ht1]
      rfl
    rw [app_tick hn hf hb] at e
    by_cases hr0 : 0 < ref
    · rw [if_pos hr0] at e
      rw [apd_one hr.encE (by rw [e]; show (60 : Int) ≠ 0; decide), e]
      exact .full ⟨⟨x, false, ref - 1, c1, keep, rfl, hf, hc1⟩, fun _ => rfl, rfl, hg⟩ rfl
    · rw [if_neg hr0] at e
      rw [apd_two hr.encE (by rw [e]), e]
      show KApp n (counted (sg n (some ⟨rb D ++ u8s (enc r), (rb D).length⟩) false ref c1 keep) (syncOn n)).1 D r (counted (sg n (some ⟨rb D ++ u8s (enc r), (rb D).length⟩) false ref c1 keep) (syncOn n)).2
      by_cases h3 : c1 = 0
      · subst h3
        have e2 : counted (sg n (some ⟨rb D ++ u8s (enc r), (rb D).length⟩) false ref 0 keep) (syncOn n) = (sg n (some (fl (rb D ++ u8s ((enc r).take keep.toNat)))) true ref (-1) keep, 62) := by
          show (if (Dk.crash keep (sg n (some ⟨rb D ++ u8s (enc r), (rb D).length⟩) false ref 0 keep)).off then (Dk.crash keep (sg n (some ⟨rb D ++ u8s (enc r), (rb D).length⟩) false ref 0 keep), (62 : Int)) else _) = _
          rw [sg_crash, Option.map_some, crF_part]
          have : (u8s (enc r)).take keep.toNat = u8s ((enc r).take keep.toNat) := by simp [u8s, List.map_take]
          rw [this]
          rfl
        rw [e2]
        exact .down _ ⟨⟨_, true, ref, -1, keep, rfl, .inr rfl, by decide⟩, fun h => (by cases h), ⟨hr, keep.toNat, rfl⟩, hg⟩ rfl
      · obtain ⟨c2, hc2, ht2⟩ : ∃ c2 : Int, -1 ≤ c2 ∧ Dk.tick (sg n (some ⟨rb D ++ u8s (enc r), (rb D).length⟩) false ref c1 keep) = sg n (some ⟨rb D ++ u8s (enc r), (rb D).length⟩) false ref c2 keep := by
          by_cases h2 : 0 < c1
          · exact ⟨c1 - 1, by omega, sg_tickP _ _ _ _ _ h2⟩
          · have : c1 = -1 := by omega
            subst this
            exact ⟨-1, by omega, rfl⟩
        have e2 : counted (sg n (some ⟨rb D ++ u8s (enc r), (rb D).length⟩) false ref c1 keep) (syncOn n) = (sg n (some (fl (rb (D ++ [r]) ++ u8s []))) false ref c2 keep, 0) := by
          unfold counted
          rw [ht2]
          show syncOn n (sg n (some ⟨rb D ++ u8s (enc r), (rb D).length⟩) false ref c2 keep) = _
          unfold syncOn onF
          rw [sg_find]
          show (lay1 n _ (sg n _ _ _ _ _), (0 : Int)) = _
          rw [sg_lay, u8s_nil, List.append_nil, rb_snoc]
          rfl
        rw [e2]
        exact .done ⟨⟨_, false, ref, c2, keep, rfl, .inr rfl, hc2⟩, fun _ => rfl, rfl, hg.snoc hr⟩ rfl
theorem KInv.bs_le {n : Nm} {s : St} {D : List Rec} {t : List Nat} (h : KInv n s D none t) {B : Nat} (hb : (rowb D).length ≤ B) : (bsOf n s).length ≤ B := by
  obtain ⟨⟨x, off, ref, calls, keep, rfl, hf, hc⟩, hon, hp, hg⟩ := h
  have ht : t = [] := hp
  subst ht
  rw [sg_bs]
  rcases hf with ⟨rfl, _, _⟩ | rfl
  · simp [bsX]
  · simp only [bsX, fl, u8s_nil, List.append_nil, rb_len]; exact hb
/-- Open, the power on again -/
theorem KInv.opn {n : Nm} {s : St} {D : List Rec} {la : Option Rec} {t : List Nat} (h : KInv n s D la t) : ∃ rs s', Opn n (up s) s' 0 (rowb rs).length rs ∧ KInv n s' rs none [] ∧ s'.off = false ∧ Dk.tick s' = s' ∧ (rs = D ∨ ∃ r, la = some r ∧ rs = D ++ [r]) ∧ (bsOf n (up s)).length ≤ (rowb D).length + 1048584 := by
  obtain ⟨⟨x, off, ref, calls, keep, rfl, hf, hc⟩, hon, hp, hg⟩ := h
  rw [sg_up]
  rcases hf with ⟨rfl, rfl, rfl⟩ | rfl
  · exact ⟨[], _, opn_gone (sg_on ..) (sg_find ..), ⟨⟨none, false, ref, -1, keep, rfl, .inl ⟨rfl, rfl, rfl⟩, by decide⟩, fun _ => rfl, rfl, gds_nil⟩, rfl, rfl, .inl rfl, by rw [sg_bs]; simp [bsX]⟩
  · have hbs : (bsOf n (sg n (some (fl (rb D ++ u8s t))) false ref (-1) keep)).length = (rowb D).length + t.length := by rw [sg_bs]; simp only [bsX, fl, List.length_append, rb_len, u8s_length]
    have hnt : ∀ t : List Nat, (∀ c ∈ t, c < 256) → nts (fl (rb D ++ u8s t)).bs = rowb D ++ t := fun t ht => by simp only [fl, nts_append, rb_nts, nts_u8s ht]
    have whole : ∀ rs : List Rec, Gds rs → rb D ++ u8s t = rb rs → Opn n (sg n (some (fl (rb D ++ u8s t))) false ref (-1) keep) (sg n (some (fl (rb rs ++ u8s []))) false ref (-1) keep) 0 (rowb rs).length rs := by
      intro rs hgr e
      rw [e, u8s_nil, List.append_nil]
      exact opn_whole (sg_on ..) (sg_find ..) hgr (rb_nts rs)
    cases la with
    | none =>
      have ht : t = [] := hp
      subst ht
      exact ⟨D, _, whole D hg (by rw [u8s_nil, List.append_nil]), ⟨⟨_, false, ref, -1, keep, rfl, .inr rfl, by decide⟩, fun _ => rfl, rfl, hg⟩, rfl, rfl, .inl rfl, by rw [hbs]; simp⟩
    | some r =>
      obtain ⟨hr, k, hk⟩ := hp
      have hle : t.length ≤ 1048584 := by rw [hk, List.length_take]; have := hr.enc_len; omega
      by_cases hfull : (enc r).length ≤ k
      · rw [List.take_of_length_le hfull] at hk
        exact ⟨D ++ [r], _, whole (D ++ [r]) (hg.snoc hr) (by rw [hk, rb_snoc]), ⟨⟨_, false, ref, -1, keep, rfl, .inr rfl, by decide⟩, fun _ => rfl, rfl, hg.snoc hr⟩, rfl, rfl, .inr ⟨r, rfl, rfl⟩, by rw [hbs]; omega⟩
      · by_cases h0 : t = []
        · subst h0
          exact ⟨D, _, whole D hg (by rw [u8s_nil, List.append_nil]), ⟨⟨_, false, ref, -1, keep, rfl, .inr rfl, by decide⟩, fun _ => rfl, rfl, hg⟩, rfl, rfl, .inl rfl, by rw [hbs]; simp⟩
        · have hb := hnt t (by rw [hk]; exact fun c hc => enc_byt r c (List.mem_of_mem_take hc))
          have ho := opn_torn (sg_on n (some (fl (rb D ++ u8s t))) ref keep) (sg_find ..) hg hb (by rw [hk]; exact torn_ne hr (by omega)) (by have := List.length_pos_iff.2 h0; omega)
          rw [sg_lay] at ho
          have e1 : (fl (rb D ++ u8s t)).bs.take (rowb D).length = rb D := by simp only [fl]; rw [← rb_len D, List.take_left]
          have e2 : min (fl (rb D ++ u8s t)).sy (rowb D).length = (rb D).length := by simp only [fl, List.length_append, rb_len, u8s_length]; omega
          rw [e1, e2] at ho
          refine ⟨D, _, ho, ⟨⟨_, false, ref, -1, keep, rfl, .inr ?_, by decide⟩, fun _ => rfl, rfl, hg⟩, rfl, rfl, .inl rfl, by rw [hbs]; omega⟩
          rw [u8s_nil, List.append_nil]
          rfl
end Go.Proofs.YtgamhblkgojapaaDoor
