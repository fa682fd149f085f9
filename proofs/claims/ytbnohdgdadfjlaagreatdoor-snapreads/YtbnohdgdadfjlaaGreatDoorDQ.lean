import Derived.Test.YtbnohdgdadfjlaaGreatDoorDC
import Derived.Test.YtbnohdgdadfjlaaGreatDoorDP
import Derived.Test.YtbnohdgdadfjlaaGreatDoorDLD
/- What the document reads is small; what it loads. -/
namespace Go.Proofs.YtbnohdgdadfjlaaGreatDoor
open Go.RowKit Go.Sort Orl Pk Go.Maps
set_option linter.unusedVariables false
set_option linter.unusedSimpArgs false

/-- at most L bytes are left -/
def Fw (L : Nat) (st : DS) : Prop := st.1.length ≤ L ∧ ∀ c ∈ st.1, c < 256
theorem dtake_fw {L : Nat} (k : Nat) {st : DS} (h : Fw L st) : (dtake k st).1.length ≤ L ∧ Fw L (dtake k st).2 := by
  obtain ⟨h1, h2⟩ := h
  unfold dtake
  split
  · exact ⟨by simp, h1, h2⟩
  · refine ⟨?_, ?_, fun c hc => h2 c (List.mem_of_mem_drop hc)⟩
    · simp only [List.length_take]; omega
    · simp only [List.length_drop]; omega
theorem dnum_fw {L : Nat} (k : Nat) {st : DS} (h : Fw L st) : (dnum k st).1 < 256 ^ k ∧ Fw L (dnum k st).2 := by
  refine ⟨?_, (dtake_fw k h).2⟩
  have := val_lt _ (dtake_byt k st h.2)
  exact Nat.lt_of_lt_of_le this (Nat.pow_le_pow_right (by decide) (dtake_le k st).1)
theorem dtxt_fw {L : Nat} {st : DS} (h : Fw L st) : (dtxt st).1.length ≤ L ∧ Fw L (dtxt st).2 := dtake_fw _ (dnum_fw 4 h).2
theorem dmany_fw {α : Type} {L : Nat} (f : DS → α × DS) (P : α → Prop) (hf : ∀ st, Fw L st → P (f st).1 ∧ Fw L (f st).2) : ∀ (n : Nat) (st : DS), Fw L st → (∀ x ∈ (dmany f n st).1, P x) ∧ Fw L (dmany f n st).2
  | 0, st, h => ⟨fun x hx => (by cases hx), h⟩
  | n + 1, st, h => by
    have ih := dmany_fw f P hf n st h
    rw [dmany]
    split
    · exact ih
    · have h1 := hf _ ih.2
      refine ⟨fun x hx => ?_, h1.2⟩
      rw [List.mem_append] at hx
      rcases hx with hx | hx
      · exact ih.1 x hx
      · rw [List.mem_singleton.1 hx]; exact h1.1
/-- what a version that was read keeps to -/
def Sm (L : Nat) (v : VT) : Prop := v.1.2 < 18446744073709551616 ∧ v.1.1.size ≤ L ∧ v.2.1.size ≤ L ∧ v.2.2.length ≤ 4294967296 ∧ ∀ t ∈ v.2.2, t.size ≤ L
theorem dver_fw {L : Nat} (st : DS) (h : Fw L st) : Sm L (dver st).1 ∧ Fw L (dver st).2 := by
  have h1 := dtxt_fw h
  have h2 : (dv2 st).1 < 256 ^ 8 ∧ Fw L (dv2 st).2 := dnum_fw 8 h1.2
  have h3 : (dv3 st).1.length ≤ L ∧ Fw L (dv3 st).2 := dtxt_fw h2.2
  have h4 : (dv4 st).1 < 256 ^ 4 ∧ Fw L (dv4 st).2 := dnum_fw 4 h3.2
  have h5 : (∀ x ∈ (dv5 st).1, x.size ≤ L) ∧ Fw L (dv5 st).2 := dmany_fw dkey (fun t => t.size ≤ L) (fun st h => by
    have := dtxt_fw h
    exact ⟨by unfold dkey; simp only [text_size']; exact this.1, this.2⟩) _ _ h4.2
  have p4 : (256 : Nat) ^ 4 = 4294967296 := by decide
  have p8 : (256 : Nat) ^ 8 = 18446744073709551616 := by decide
  refine ⟨⟨?_, ?_, ?_, ?_, ?_⟩, h5.2⟩
  · unfold dver; simp only; rw [← p8]; exact h2.1
  · unfold dver; simp only [text_size']; exact h1.1
  · unfold dver; simp only [text_size']; exact h3.1
  · have := dmany_len dkey (dv4 st).2 (dv4 st).1
    unfold dver; simp only
    have e : (dv5 st).1.length ≤ (dv4 st).1 := this
    have := h4.1
    omega
  · unfold dver; simp only; exact h5.1
theorem dVs_fw (b : List Nat) (hb : ∀ c ∈ b, c < 256) : ∀ v ∈ (dVs b).1, Sm b.length v := by
  have h0 : Fw b.length (b, false) := ⟨Nat.le_refl _, hb⟩
  have h1 : Fw b.length (d1 b).2 := (dtake_fw 5 h0).2
  have h2 : Fw b.length (d2 b).2 := (dnum_fw 8 h1).2
  have h3 : Fw b.length (d3 b).2 := (dnum_fw 4 h2).2
  have h4 : Fw b.length (dLs b).2 := (dmany_fw dlast (fun _ => True) (fun st h => ⟨trivial, (dnum_fw 8 (dtxt_fw h).2).2⟩) _ _ h3).2
  have h5 : Fw b.length (d5 b).2 := (dnum_fw 4 h4).2
  exact (dmany_fw dver (Sm b.length) dver_fw _ _ h5).1
theorem dVs_len (b : List Nat) (hb : ∀ c ∈ b, c < 256) : (dVs b).1.length < 4294967296 := by
  have h0 : Fw b.length (b, false) := ⟨Nat.le_refl _, hb⟩
  have h1 : Fw b.length (d1 b).2 := (dtake_fw 5 h0).2
  have h2 : Fw b.length (d2 b).2 := (dnum_fw 8 h1).2
  have h3 : Fw b.length (d3 b).2 := (dnum_fw 4 h2).2
  have h4 : Fw b.length (dLs b).2 := (dmany_fw dlast (fun _ => True) (fun st h => ⟨trivial, (dnum_fw 8 (dtxt_fw h).2).2⟩) _ _ h3).2
  have h5 := (dnum_fw 4 h4).1
  have := dmany_len dver (d5 b).2 (d5 b).1
  have p4 : (256 : Nat) ^ 4 = 4294967296 := by decide
  have e : (dVs b).1.length ≤ (d5 b).1 := this
  have e2 : (d5 b).1 < 4294967296 := by rw [← p4]; exact h5
  omega

/-! ### what is loaded -/
theorem inc_of_rising {ks : List KV} (h : rising ltk ks = true) : Inc ltM (ks.map (·.m)) := by
  have := (rising_iff swoK ks).1 h
  unfold Inc at this ⊢
  rw [List.pairwise_map]
  exact this
theorem there_V {ks : List KV} (h : rising ltk ks = true) (m : Mk) : there ks m = ((loadKs ks).V m).isSome := by
  have hi := inc_of_rising h
  have hne := inck_ne ((rising_iff swoK ks).1 h)
  by_cases hm : m ∈ ks.map (·.m)
  · rw [(there_iff hi).2 hm]
    obtain ⟨x, hx, rfl⟩ := List.mem_map.1 hm
    rw [loadKs_some hne hx]; rfl
  · have h1 : there ks m = false := by
      cases ht : there ks m with
      | false => rfl
      | true => exact absurd ((there_iff hi).1 ht) hm
    rw [h1, loadKs_none (fun x hx e => hm (List.mem_map.2 ⟨x, hx, e⟩))]; rfl
theorem docLoad_eq (ks : List KV) (ls : List Mk) : docLoad ks ls = okLoad ks ls := by
  rw [Bool.eq_iff_iff]
  unfold docLoad okLoad okKept fitsAll hasAll
  simp only [Bool.and_eq_true, List.all_eq_true, loadedB_eq]
  constructor
  · rintro ⟨⟨h1, h2⟩, h3, h4⟩
    exact ⟨⟨⟨fun x hx => (h1 x hx).1, h2⟩, h4⟩, fun x hx => (h1 x hx).2, fun l hl => by rw [← there_V h2]; exact h3 l hl⟩
  · rintro ⟨⟨⟨h1, h2⟩, h4⟩, h5, h3⟩
    exact ⟨⟨fun x hx => ⟨h1 x hx, h5 x hx⟩, h2⟩, fun l hl => by rw [there_V h2]; exact h3 l hl, h4⟩
theorem key_of_eq {a b : List KV} (h : KsEq true a b) : a.map KV.key = b.map KV.key := by
  apply List.ext_getElem (by simp [h.1])
  intro j h1 h2
  rw [List.length_map] at h1 h2
  obtain ⟨q1, q2, q3, q4⟩ := h.2 j h1
  have g1 : a.getD j kv0 = a[j] := by simp [List.getD_eq_getElem?_getD, h1]
  have g2 : b.getD j kv0 = b[j] := by simp [List.getD_eq_getElem?_getD, h2]
  rw [g1, g2] at q1 q2 q3 q4
  simp only [List.getElem_map, KV.key, KV.vt, q1, q2, q3, q4 rfl]
theorem rl_key {s : St} {ls : List Mk} {a b : List KV} (h : Tld s ls a) (e : a.map KV.key = b.map KV.key) : Rl s b ls := by
  refine ⟨fun x hx => ?_, fun m hm => ?_, ?_, h.la⟩
  · have : x.key ∈ a.map KV.key := by rw [e]; exact List.mem_map.2 ⟨x, hx, rfl⟩
    obtain ⟨y, hy, hyx⟩ := List.mem_map.1 this
    have := h.is y hy
    simp only [KV.key, KV.vt, Prod.mk.injEq] at hyx
    obtain ⟨⟨q1, q2, q3⟩, q4⟩ := hyx
    rw [← q1, this]
    simp only [KV.vr, q2, q3, q4]
  · rw [← map_m e]; exact h.all m hm
  · rw [← map_m e]; exact h.inc
end Go.Proofs.YtbnohdgdadfjlaaGreatDoor
