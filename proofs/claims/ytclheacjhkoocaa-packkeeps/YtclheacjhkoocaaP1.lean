import Derived.Test.YtclheacjhkoocaaL2
namespace Go.Proofs.Ytclheacjhkoocaa
open Go.RowKit
open Pk
set_option linter.unusedVariables false
set_option linter.unusedSimpArgs false

def op0 : OpV := ⟨0, 0, ⟨#[]⟩, none, 0, [], 0, 0⟩
/-- a script, as it lies in memory -/
structure Script (w : World) (o : Option Addr) (ps : List OpV) : Prop where
  row : ps = [] ∨ ∃ b off, o = some ⟨b, off, none⟩ ∧ ∀ j, j < ps.length → ∀ k, k < 6 → w.cell? ⟨b, off + j * 6 + k, none⟩ = (ps.getD j op0).cells[k]?
  ok : ∀ p ∈ ps, p.ok w
  len : ps.length ≤ 140737488351232
theorem Script.keeps {w w' : World} {o : Option Addr} {ps : List OpV} (h : Script w o ps) (hk : Keeps (fun _ => False) w w') : Script w' o ps := by
  refine ⟨?_, fun p hp => (h.ok p hp).keeps hk (fun _ _ _ h => h), h.len⟩
  rcases h.row with h0 | ⟨b, off, rfl, hc⟩
  · exact .inl h0
  · refine .inr ⟨b, off, rfl, fun j hj k hk6 => ?_⟩
    have := hc j hj k hk6
    have hsz : (ps.getD j op0).cells.size = 6 := rfl
    rw [Array.getElem?_eq_getElem (by omega)] at this ⊢
    exact hk.cell this (fun h => h)
theorem getD_mem (ps : List OpV) (k : Nat) (h : k < ps.length) : ps.getD k op0 ∈ ps := by
  rw [List.getD_eq_getElem?_getD, List.getElem?_eq_getElem h]
  exact List.getElem_mem h

/-- the states of a writer over a script -/
def wst (L : Nat) (st : WS) (ps : List OpV) : WS := ps.foldl (fun st p => lay L st p.news) st
def newsLen : List OpV → Nat
  | [] => 0
  | p :: ps => p.news.length + newsLen ps
theorem newsLen_append (a b : List OpV) : newsLen (a ++ b) = newsLen a + newsLen b := by
  induction a with
  | nil => simp [newsLen]
  | cons p l ih => simp [newsLen, ih]; omega
theorem newsLen_take (ps : List OpV) (k : Nat) : newsLen (ps.take k) ≤ newsLen ps := by
  have : newsLen ps = newsLen (ps.take k) + newsLen (ps.drop k) := by rw [← newsLen_append, List.take_append_drop]
  omega
theorem lay_len (L : Nat) (st : WS) (news : List Nat) : (lay L st news).1.length ≤ st.1.length + news.length := by
  unfold lay
  split
  · omega
  · split
    · simp
    · simp
theorem wst_len (L : Nat) (ps : List OpV) : ∀ st, (wst L st ps).1.length ≤ st.1.length + newsLen ps := by
  induction ps with
  | nil => intro st; simp [wst, newsLen]
  | cons p l ih =>
    intro st
    have h1 := ih (lay L st p.news)
    have h2 := lay_len L st p.news
    simp only [wst, List.foldl_cons, newsLen] at h1 ⊢
    omega
theorem wst_snoc (L : Nat) (st : WS) (ps : List OpV) (k : Nat) (h : k < ps.length) : wst L st (ps.take (k + 1)) = lay L (wst L st (ps.take k)) (ps.getD k op0).news := by
  rw [List.take_succ_eq_append_getElem h]
  unfold wst
  rw [List.foldl_append]
  simp [h]

/-- how two things that a call may touch lie to one another -/
theorem foot_step {w : World} {a : Nat} {o o' : Option Addr} {B : Nat} (hf : Fresh w o o') (hB : ∀ k, footW a o k → B ≤ k) (hBw : B ≤ w.heap.size) : ∀ k, footW a o' k → B ≤ k := by
  rintro k (rfl | hk)
  · exact hB _ (.inl rfl)
  · rcases hf.in k hk with h' | h'
    · exact hB k (.inr h')
    · omega
theorem foot_apart {w : World} {a a2 : Nat} {o o' o2 : Option Addr} (hf : Fresh w o o') (hd : ∀ k, footW a o k → ¬ footW a2 o2 k) (hl : ∀ k, footW a2 o2 k → k < w.heap.size) : ∀ k, footW a o' k → ¬ footW a2 o2 k := by
  rintro k (rfl | hk)
  · exact hd _ (.inl rfl)
  · rcases hf.in k hk with h' | h'
    · exact hd k (.inr h')
    · intro h2; have := hl k h2; omega

set_option maxRecDepth 10000 in
set_option maxHeartbeats 1000000 in
theorem packWrites_any (w : World) (limit : Int) (h1 : -9223372036854775808 ≤ limit) (h2 : limit ≤ 9223372036854775807) (o : Option Addr) (cap : Nat) (ps : List OpV) (hs : Script w o ps)
    (hall : newsLen ps ≤ 140737488355328) (hb : ∀ p ∈ ps, 4 + bodyLen (natss p.ss) ≤ 140737488355328) :
    Calls Try.prog 6 #[.int .i64 limit, .slice o ps.length cap] w fun e w' => e = .returned (.bool true) ∧ Keeps (fun _ => False) w w' := by
  obtain ⟨n, hn⟩ : ∃ n, n = ps.length := ⟨_, rfl⟩
  rw [← hn]
  have HN : Hid (n = ps.length) := hn
  have hn5 : n ≤ 140737488351232 := by have := hs.len; omega
  clear hn
  have HALL : Hid (newsLen ps ≤ 140737488355328) := hall
  clear hall
  go_enter Try.func6, Try.ntmps6
  go_wp2_with fail
  refine (newWriter_any limit w h1 h2).mono ?_
  rintro e w1 ⟨rfl, hW1, hk1⟩
  obtain ⟨a, ha⟩ : ∃ a, a = w.heap.size := ⟨_, rfl⟩
  rw [← ha] at hW1 ⊢
  have HA : Hid (a = w.heap.size) := ha
  clear ha
  go_wp2_with fail
  refine (refNewWriter_any limit w1 h1 h2).mono ?_
  rintro e w2 ⟨rfl, hV2, hk2⟩
  obtain ⟨b, hbb⟩ : ∃ b, b = w1.heap.size := ⟨_, rfl⟩
  rw [← hbb] at hV2 ⊢
  have HB : Hid (b = w1.heap.size) := hbb
  clear hbb
  have hW2 := hW1.keeps hk2 (fun _ _ h => h)
  have hab : a < b := by rw [HB.out]; exact lt_of_block hW1.blk
  have hwa : w.heap.size ≤ a := by rw [HA.out]; exact Nat.le_refl _
  go_wp2_with fail
  refine (known_any w2).mono ?_
  rintro e w3 ⟨rfl, hk3⟩
  have hW3 : Hid (IsW 65 w3 a none 0 limit.toNat [] 0) := hW2.keeps hk3 (fun _ _ h => h)
  have hV3 : Hid (IsW 85 w3 b none 0 limit.toNat [] 0) := hV2.keeps hk3 (fun _ _ h => h)
  have HK3 : Hid (Keeps (fun _ => False) w w3) := (hk1.trans hk2).trans hk3
  clear hk1 hk2 hk3 hW1 hW2 hV2
  go_wp2_with fail
  go_loopw [7] (fun i wr => ∃ (k : Nat) (oa : Option Addr) (ca : Nat) (ob : Option Addr) (cb : Nat), k ≤ n ∧ i = .int .i64 k ∧ IsW 65 wr a oa ca limit.toNat (wst limit.toNat ([], 0) (ps.take k)).1 (wst limit.toNat ([], 0) (ps.take k)).2 ∧ IsW 85 wr b ob cb limit.toNat (wst limit.toNat ([], 0) (ps.take k)).1 (wst limit.toNat ([], 0) (ps.take k)).2 ∧ (∀ x, footW a oa x → w.heap.size ≤ x) ∧ (∀ x, footW b ob x → w.heap.size ≤ x) ∧ (∀ x, footW a oa x → ¬ footW b ob x) ∧ Keeps (fun _ => False) w wr) (fun i _ => n - (intOf i).toNat)
  case atStart =>
    refine ⟨0, none, 0, none, 0, by omega, rfl, hW3.out, hV3.out, ?_, ?_, ?_, HK3.out⟩
    · rintro x (rfl | ⟨y, h, _⟩); exact hwa; cases h
    · rintro x (rfl | ⟨y, h, _⟩); omega; cases h
    · rintro x (rfl | ⟨y, h, _⟩) (h' | ⟨y', h', _⟩)
      · omega
      · cases h'
      · cases h
      · cases h
  case round =>
    obtain ⟨k, oa, ca, ob, cb, hk, rfl, hW, hV, hfa, hfb, hdis, hK⟩ := hrel
    clear hW3 hV3 HK3
    by_cases hlt : k < n
    · have hks : k < ps.length := by have := HN.out; omega
      have hsr := hs.keeps hK
      have hpok := hsr.ok _ (getD_mem ps k hks)
      have hbk := hb _ (getD_mem ps k hks)
      have hws := wst_snoc limit.toNat ([], 0) ps k hks
      have hwl := wst_len limit.toNat (ps.take (k + 1)) ([], 0)
      have hnt := newsLen_take ps (k + 1)
      have hal := HALL.out
      rcases hsr.row with h0 | ⟨bb, off, rfl, hc⟩
      · rw [h0] at hks; simp at hks
      have hck := hc k hks
      obtain ⟨p, hp⟩ : ∃ p, p = ps.getD k op0 := ⟨_, rfl⟩
      rw [← hp] at hpok hbk hws hck
      generalize hst : wst limit.toNat ([], 0) (ps.take k) = st at hW hV hws
      obtain ⟨bs, e0⟩ := st
      have HWS : Hid (wst limit.toNat ([], 0) (ps.take (k + 1)) = lay limit.toNat (bs, e0) p.news) := hws
      have HLID : Hid ((lay limit.toNat (bs, e0) p.news).1.length ≤ 140737488355328) := by
        show _ ≤ _
        rw [← hws]
        simp at hwl
        omega
      have HMEM : Hid (p ∈ ps) := hp ▸ getD_mem ps k hks
      have HOLD : Hid (∀ p ∈ ps, ∀ q, inO p.ol q → p.ss ≠ [] → q < w.heap.size) := fun p hp q hq h0 => (hs.ok p hp).live q hq h0
      have HAPA : Hid (∀ p ∈ ps, ∀ q, inO p.ol q → p.ss ≠ [] → ¬ footW a oa q) := fun p hp q hq h0 hf => by have := hfa q hf; have := (hs.ok p hp).live q hq h0; omega
      have HBL : Hid (∀ j, j < n → bb < w.heap.size) := by
        intro j hj
        rcases hs.row with h0 | ⟨b', off', e', hc'⟩
        · have := HN.out; rw [h0] at this; simp at this; omega
        · cases e'
          have := hc' k hks 0 (by omega)
          exact World.block_lt_of_cell? w _ this
      clear hws hwl hnt hal hst hp hc
      have d0 : wr.cell? ⟨bb, off + k * 6, none⟩ = some (.int .i64 p.kind) := hck 0 (by omega)
      have d1 : wr.cell? ⟨bb, off + k * 6 + 1, none⟩ = some (.int .u64 (p.v : Nat)) := hck 1 (by omega)
      have d2 : wr.cell? ⟨bb, off + k * 6 + 2, none⟩ = some (.string p.s) := hck 2 (by omega)
      have d3 : wr.cell? ⟨bb, off + k * 6 + 3, none⟩ = some (.slice p.ol p.ss.length p.cl) := hck 3 (by omega)
      have d4 : wr.cell? ⟨bb, off + k * 6 + 4, none⟩ = some (.int .i64 p.N) := hck 4 (by omega)
      have d5 : wr.cell? ⟨bb, off + k * 6 + 5, none⟩ = some (.int .i64 p.M) := hck 5 (by omega)
      clear hck
      have hbl : bb < w.heap.size := HBL.out k hlt
      go_wp2_with fail
      refine (write_any wr a oa ca limit.toNat bs e0 p hpok (HAPA.out p HMEM.out) hW (.inl (by omega)) HLID.out).mono ?_
      rintro e w4 ⟨rfl, oa', ca', hW4, hfa4, hk4⟩
      have HF4 : Hid (∀ x, footW a oa' x → w.heap.size ≤ x) := foot_step hfa4 hfa hK.size
      have HD4 : Hid (∀ x, footW a oa' x → ¬ footW b ob x) := foot_apart hfa4 hdis hV.lt
      have hV4 := hV.keeps hk4 (fun x hx hx' => hdis x hx' hx)
      have HK4 : Hid (Keeps (fun _ => False) w w4) := hK.then hk4 (fun x hx => .inr (hfa x hx))
      have hko : ∀ q, q < w.heap.size → ¬ footW a oa q := fun q hq hf => by have := hfa q hf; omega
      have g0 := hk4.cell d0 (hko bb hbl)
      have g1 := hk4.cell d1 (hko bb hbl)
      have g2 := hk4.cell d2 (hko bb hbl)
      have g3 := hk4.cell d3 (hko bb hbl)
      have g4 := hk4.cell d4 (hko bb hbl)
      have g5 := hk4.cell d5 (hko bb hbl)
      have hp4 := hpok.keeps hk4 (HAPA.out p HMEM.out)
      have HAPB : Hid (∀ q, inO p.ol q → p.ss ≠ [] → ¬ footW b ob q) := fun q hq h0 hf => by have := hfb q hf; have := HOLD.out p HMEM.out q hq h0; omega
      clear d0 d1 d2 d3 d4 d5 hko
      go_wp2_with fail
      refine (want_any w4 b ob cb limit.toNat bs e0 p hp4 HAPB.out hV4 (by omega) HLID.out).mono ?_
      rintro e w5 ⟨rfl, ob', cb', hV5, hfb5, hk5⟩
      have HF5 : Hid (∀ x, footW b ob' x → w.heap.size ≤ x) := foot_step hfb5 hfb HK4.out.size
      have HD5 : Hid (∀ x, footW a oa' x → ¬ footW b ob' x) := fun x hx hx' => foot_apart hfb5 (fun y hy hy' => HD4.out y hy' hy) hW4.lt x hx' hx
      have hW5 := hW4.keeps hk5 (fun x hx hx' => HD4.out x hx hx')
      have HK5 : Hid (Keeps (fun _ => False) w w5) := HK4.out.then hk5 (fun x hx => .inr (hfb x hx))
      clear g0 g1 g2 g3 g4 g5 hk4 hk5 hW hV hV4 hW4 hpok hp4 hfa hfb hdis
      generalize hst : lay limit.toNat (bs, e0) p.news = st at hW5 hV5 HWS
      obtain ⟨bs', e'⟩ := st
      simp only at hW5 hV5
      clear hst HLID
      go_wp2_with fail
      refine (wLen_any w5 a oa' ca' limit.toNat bs' e' hW5).mono ?_
      rintro e w6 ⟨rfl, rfl⟩
      go_wp2_with fail
      refine (refLen_any w6 b ob' cb' limit.toNat bs' e' hV5).mono ?_
      rintro e w7 ⟨rfl, rfl⟩
      by_cases h4 : (k : Int) % 4 = 0
      · go_wp2_with fail
        refine (outs_any w7 a oa' ca' limit.toNat bs' e' b ob' cb' limit.toNat hW5 hV5).mono ?_
        rintro e w8 ⟨rfl, hk8⟩
        go_wp2_with fail
        go_roundw
        case rel =>
          refine ⟨k + 1, oa', ca', ob', cb', by omega, by go_num, ?_, ?_, HF4.out, HF5.out, HD5.out, HK5.out.trans hk8⟩
          · rw [HWS.out]; exact hW5.keeps hk8 (fun _ _ h => h)
          · rw [HWS.out]; exact hV5.keeps hk8 (fun _ _ h => h)
        case measure => simp [intOf]; omega
      · go_wp2_with fail
        go_roundw
        case rel =>
          refine ⟨k + 1, oa', ca', ob', cb', by omega, by go_num, ?_, ?_, HF4.out, HF5.out, HD5.out, HK5.out⟩
          · rw [HWS.out]; exact hW5
          · rw [HWS.out]; exact hV5
        case measure => simp [intOf]; omega
    · go_wp2_with fail
      refine (outs_any wr a oa ca limit.toNat _ _ b ob cb limit.toNat hW hV).mono ?_
      rintro e w8 ⟨rfl, hk8⟩
      go_wp2
      go_ret
      exact ⟨rfl, hK.trans hk8⟩
end Go.Proofs.Ytclheacjhkoocaa
