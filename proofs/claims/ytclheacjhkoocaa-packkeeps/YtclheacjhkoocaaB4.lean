import Derived.Test.YtclheacjhkoocaaB3
namespace Go.Proofs.Ytclheacjhkoocaa
open Go.RowKit
open Pk
set_option linter.unusedVariables false
set_option linter.unusedSimpArgs false

/-- the four that a round of PackBack's second loop works on, and the bytes -/
structure Four (w wr : World) (a : Nat) (oa : Option Addr) (ca : Nat) (rs : List Nat) (b : Nat) (ob : Option Addr) (cb : Nat) (ms : List Nat) (c : Nat) (oc : Option Addr) (cc LJ : Nat) (js : List Nat) (je : Nat) (d : Nat) (od : Option Addr) (cd LL : Nat) (lsd : List Nat) (le : Nat) (oX : Option Addr) (cX : Nat) (B : List Nat) (own : Nat → Nat) : Prop where
  r : IsR 68 wr a oa ca rs 0
  m : IsR 68 wr b ob cb ms 0
  j : IsW 65 wr c oc cc LJ js je
  l : IsW 65 wr d od cd LL lsd le
  x : Owns wr oX cX B
  tr : Tag w.heap.size own 1 (footW a oa)
  tm : Tag w.heap.size own 2 (footW b ob)
  tj : Tag w.heap.size own 3 (footW c oc)
  tl : Tag w.heap.size own 4 (footW d od)
  tx : Tag w.heap.size own 5 (inO oX)
  K : Keeps (fun _ => False) w wr

theorem Four.keep {w wr w' : World} {a : Nat} {oa : Option Addr} {ca : Nat} {rs : List Nat} {b : Nat} {ob : Option Addr} {cb : Nat} {ms : List Nat} {c : Nat} {oc : Option Addr} {cc LJ : Nat} {js : List Nat} {je : Nat} {d : Nat} {od : Option Addr} {cd LL : Nat} {lsd : List Nat} {le : Nat} {oX : Option Addr} {cX : Nat} {B : List Nat} {own : Nat → Nat}
    (h : Four w wr a oa ca rs b ob cb ms c oc cc LJ js je d od cd LL lsd le oX cX B own) (hk : Keeps (fun _ => False) wr w') : Four w w' a oa ca rs b ob cb ms c oc cc LJ js je d od cd LL lsd le oX cX B own :=
  ⟨h.r.keeps hk (fun _ _ h => h), h.m.keeps hk (fun _ _ h => h), h.j.keeps hk (fun _ _ h => h), h.l.keeps hk (fun _ _ h => h), h.x.keeps hk (fun _ _ h => h), h.tr, h.tm, h.tj, h.tl, h.tx, h.K.trans hk⟩
theorem Four.stepR {w wr w' : World} {a : Nat} {oa : Option Addr} {ca : Nat} {rs : List Nat} {b : Nat} {ob : Option Addr} {cb : Nat} {ms : List Nat} {c : Nat} {oc : Option Addr} {cc LJ : Nat} {js : List Nat} {je : Nat} {d : Nat} {od : Option Addr} {cd LL : Nat} {lsd : List Nat} {le : Nat} {oX : Option Addr} {cX : Nat} {B : List Nat} {own : Nat → Nat} {rs' : List Nat}
    (h : Four w wr a oa ca rs b ob cb ms c oc cc LJ js je d od cd LL lsd le oX cX B own) (hs : RStep 68 wr a oa (rs', 0) w') : ∃ oa' ca', Four w w' a oa' ca' rs' b ob cb ms c oc cc LJ js je d od cd LL lsd le oX cX B own := by
  obtain ⟨oa', ca', h1, h2, hk⟩ := hs
  have ap : ∀ {i : Nat} {F : Nat → Prop}, Tag w.heap.size own i F → i ≠ 1 → ∀ k, F k → ¬ k = a := fun ht hi k hk e => hi ((ht k hk).1.symm.trans (e ▸ (h.tr a (.inl rfl)).1))
  exact ⟨oa', ca', h1, h.m.keeps hk (ap h.tm (by omega)), h.j.keeps hk (ap h.tj (by omega)), h.l.keeps hk (ap h.tl (by omega)), h.x.keeps hk (ap h.tx (by omega)), h.tr.sub (foot_sub' h2), h.tm, h.tj, h.tl, h.tx, h.K.then hk (fun i hi => .inr (hi ▸ (h.tr a (.inl rfl)).2))⟩
theorem Four.stepM {w wr w' : World} {a : Nat} {oa : Option Addr} {ca : Nat} {rs : List Nat} {b : Nat} {ob : Option Addr} {cb : Nat} {ms : List Nat} {c : Nat} {oc : Option Addr} {cc LJ : Nat} {js : List Nat} {je : Nat} {d : Nat} {od : Option Addr} {cd LL : Nat} {lsd : List Nat} {le : Nat} {oX : Option Addr} {cX : Nat} {B : List Nat} {own : Nat → Nat} {ms' : List Nat}
    (h : Four w wr a oa ca rs b ob cb ms c oc cc LJ js je d od cd LL lsd le oX cX B own) (hs : RStep 68 wr b ob (ms', 0) w') : ∃ ob' cb', Four w w' a oa ca rs b ob' cb' ms' c oc cc LJ js je d od cd LL lsd le oX cX B own := by
  obtain ⟨ob', cb', h1, h2, hk⟩ := hs
  have ap : ∀ {i : Nat} {F : Nat → Prop}, Tag w.heap.size own i F → i ≠ 2 → ∀ k, F k → ¬ k = b := fun ht hi k hk e => hi ((ht k hk).1.symm.trans (e ▸ (h.tm b (.inl rfl)).1))
  exact ⟨ob', cb', h.r.keeps hk (ap h.tr (by omega)), h1, h.j.keeps hk (ap h.tj (by omega)), h.l.keeps hk (ap h.tl (by omega)), h.x.keeps hk (ap h.tx (by omega)), h.tr, h.tm.sub (foot_sub' h2), h.tj, h.tl, h.tx, h.K.then hk (fun i hi => .inr (hi ▸ (h.tm b (.inl rfl)).2))⟩
theorem Four.stepJ {w wr w' : World} {a : Nat} {oa : Option Addr} {ca : Nat} {rs : List Nat} {b : Nat} {ob : Option Addr} {cb : Nat} {ms : List Nat} {c : Nat} {oc : Option Addr} {cc LJ : Nat} {js : List Nat} {je : Nat} {d : Nat} {od : Option Addr} {cd LL : Nat} {lsd : List Nat} {le : Nat} {oX : Option Addr} {cX : Nat} {B : List Nat} {own : Nat → Nat} {st : WS}
    (h : Four w wr a oa ca rs b ob cb ms c oc cc LJ js je d od cd LL lsd le oX cX B own) (hs : WStep 65 wr c oc LJ st w') : ∃ oc' cc' own', Four w w' a oa ca rs b ob cb ms c oc' cc' LJ st.1 st.2 d od cd LL lsd le oX cX B own' := by
  obtain ⟨oc', cc', h1, h2, hk⟩ := hs
  exact ⟨oc', cc', bump own wr.heap.size 3, h.r.keeps hk (h.tr.apart h.tj (by omega)), h.m.keeps hk (h.tm.apart h.tj (by omega)), h1, h.l.keeps hk (h.tl.apart h.tj (by omega)), h.x.keeps hk (h.tx.apart h.tj (by omega)),
    h.tr.bump _ _ h.r.lt, h.tm.bump _ _ h.m.lt, h.tj.step h2 h.j.lt h.K.size, h.tl.bump _ _ h.l.lt, h.tx.bump _ _ h.x.lt, h.K.then hk (fun i hi => .inr (h.tj i hi).2)⟩
theorem Four.stepL {w wr w' : World} {a : Nat} {oa : Option Addr} {ca : Nat} {rs : List Nat} {b : Nat} {ob : Option Addr} {cb : Nat} {ms : List Nat} {c : Nat} {oc : Option Addr} {cc LJ : Nat} {js : List Nat} {je : Nat} {d : Nat} {od : Option Addr} {cd LL : Nat} {lsd : List Nat} {le : Nat} {oX : Option Addr} {cX : Nat} {B : List Nat} {own : Nat → Nat} {st : WS}
    (h : Four w wr a oa ca rs b ob cb ms c oc cc LJ js je d od cd LL lsd le oX cX B own) (hs : WStep 65 wr d od LL st w') : ∃ od' cd' own', Four w w' a oa ca rs b ob cb ms c oc cc LJ js je d od' cd' LL st.1 st.2 oX cX B own' := by
  obtain ⟨od', cd', h1, h2, hk⟩ := hs
  exact ⟨od', cd', bump own wr.heap.size 4, h.r.keeps hk (h.tr.apart h.tl (by omega)), h.m.keeps hk (h.tm.apart h.tl (by omega)), h.j.keeps hk (h.tj.apart h.tl (by omega)), h1, h.x.keeps hk (h.tx.apart h.tl (by omega)),
    h.tr.bump _ _ h.r.lt, h.tm.bump _ _ h.m.lt, h.tj.bump _ _ h.j.lt, h.tl.step h2 h.l.lt h.K.size, h.tx.bump _ _ h.x.lt, h.K.then hk (fun i hi => .inr (h.tl i hi).2)⟩

theorem cells6 {w : World} {ps : List OpV} {bb off k : Nat} {p : OpV} (h : Script w (some ⟨bb, off, none⟩) ps) (hk : k < ps.length) (hp : p = ps.getD k op0) :
    w.cell? ⟨bb, off + k * 6, none⟩ = some (.int .i64 p.kind) ∧ w.cell? ⟨bb, off + k * 6 + 1, none⟩ = some (.int .u64 (p.v : Nat)) ∧ w.cell? ⟨bb, off + k * 6 + 2, none⟩ = some (.string p.s) ∧
    w.cell? ⟨bb, off + k * 6 + 3, none⟩ = some (.slice p.ol p.ss.length p.cl) ∧ w.cell? ⟨bb, off + k * 6 + 4, none⟩ = some (.int .i64 p.N) ∧ w.cell? ⟨bb, off + k * 6 + 5, none⟩ = some (.int .i64 p.M) := by
  rcases h.row with h0 | ⟨b', off', e, hc⟩
  · rw [h0] at hk; simp at hk
  · cases e
    have := hc k hk
    rw [← hp] at this
    exact ⟨this 0 (by omega), this 1 (by omega), this 2 (by omega), this 3 (by omega), this 4 (by omega), this 5 (by omega)⟩
theorem tag_old {B : Nat} {own : Nat → Nat} {i : Nat} {F : Nat → Prop} (h : Tag B own i F) {x : Nat} (hx : x < B) : ¬ F x := fun hf => by have := (h x hf).2; omega

set_option maxRecDepth 100000 in
set_option maxHeartbeats 0 in
theorem packBack_any (w : World) (o : Option Addr) (cap : Nat) (ps : List OpV) (hs : Script w o ps) (cut : Int) (h1 : -9223372036854775808 ≤ cut) (h2 : cut ≤ 9223372036854775807)
    (hall : newsLen ps ≤ 1073741824) (hbp : ∀ p ∈ ps, 4 + bodyLen (natss p.ss) ≤ 140737488355328) (hsm : ∀ p ∈ ps, p.small) :
    Calls Try.prog 5 #[.slice o ps.length cap, .int .i64 cut] w fun e w' => e = .returned (.bool true) ∧ Keeps (fun _ => False) w w' := by
  obtain ⟨n, hn⟩ : ∃ n, n = ps.length := ⟨_, rfl⟩
  rw [← hn]
  have HN : Hid (n = ps.length) := hn
  have hn5 : n ≤ 140737488351232 := by have := hs.len; omega
  have HALL : Hid (newsLen ps ≤ 1073741824) := hall
  have HSM : Hid (∀ p ∈ ps, p.small) := hsm
  clear hn hall hsm
  go_enter Try.func5, Try.ntmps5
  go_wp2_with fail
  refine (newWriter_any 1099511627776 w (by omega) (by omega)).mono ?_
  rintro e w1 ⟨rfl, hW1, hk1⟩
  have hW1' : IsW 65 w1 w.heap.size none 0 1099511627776 [] 0 := hW1
  obtain ⟨a, ha⟩ : ∃ a, a = w.heap.size := ⟨_, rfl⟩
  rw [← ha] at hW1' ⊢
  have HA : Hid (a = w.heap.size) := ha
  clear ha hW1
  go_wp2_with fail
  refine (known_any w1).mono ?_
  rintro e w2 ⟨rfl, hk2⟩
  have HW2 : Hid (IsW 65 w2 a none 0 1099511627776 [] 0) := hW1'.keeps hk2 (fun _ _ h => h)
  have HK2 : Hid (Keeps (fun _ => False) w w2) := hk1.trans hk2
  clear hk1 hk2 hW1'
  go_wp2_with fail
  go_loopw [6] (fun i wr => ∃ (k : Nat) (oa : Option Addr) (ca : Nat), k ≤ n ∧ i = .int .i64 k ∧ IsW 65 wr a oa ca 1099511627776 (bytesOf (ps.take k)) 0 ∧ (∀ x, footW a oa x → w.heap.size ≤ x) ∧ Keeps (fun _ => False) w wr) (fun i _ => n - (intOf i).toNat)
  case atStart =>
    refine ⟨0, none, 0, by omega, rfl, HW2.out, ?_, HK2.out⟩
    rintro x (rfl | ⟨y, h, _⟩); exact Nat.le_of_eq HA.out.symm; cases h
  case round =>
    obtain ⟨k, oa, ca, hk, rfl, hW, hfa, hK⟩ := hrel
    clear HW2 HK2
    by_cases hlt : k < n
    · have hks : k < ps.length := by have := HN.out; omega
      have hsr := hs.keeps hK
      have hpok := hsr.ok _ (getD_mem ps k hks)
      have hpok0 := hs.ok _ (getD_mem ps k hks)
      have hbk := hbp _ (getD_mem ps k hks)
      rcases hsr.row with h0 | ⟨bb, off, rfl, hc⟩
      · rw [h0] at hks; simp at hks
      have hck := hc k hks
      have hbs := bytesOf_snoc ps k hks
      have hbl := bytesOf_length (ps.take (k + 1))
      have hnt := newsLen_take ps (k + 1)
      obtain ⟨p, hp⟩ : ∃ p, p = ps.getD k op0 := ⟨_, rfl⟩
      rw [← hp] at hpok hpok0 hbk hck hbs
      have HBS : Hid (bytesOf (ps.take (k + 1)) = bytesOf (ps.take k) ++ p.news) := hbs
      have HFIT : Hid ((bytesOf (ps.take k)).length + p.news.length ≤ 1073741824) := by
        have := HALL.out
        rw [hbs, List.length_append] at hbl
        show _ ≤ _
        omega
      have HLAY : Hid (lay 1099511627776 (bytesOf (ps.take k), 0) p.news = (bytesOf (ps.take k) ++ p.news, 0)) := lay_fits _ _ _ (by have := HFIT.out; omega)
      clear hbs hbl hnt hp hc
      have d0 : wr.cell? ⟨bb, off + k * 6, none⟩ = some (.int .i64 p.kind) := hck 0 (by omega)
      have d1 : wr.cell? ⟨bb, off + k * 6 + 1, none⟩ = some (.int .u64 (p.v : Nat)) := hck 1 (by omega)
      have d2 : wr.cell? ⟨bb, off + k * 6 + 2, none⟩ = some (.string p.s) := hck 2 (by omega)
      have d3 : wr.cell? ⟨bb, off + k * 6 + 3, none⟩ = some (.slice p.ol p.ss.length p.cl) := hck 3 (by omega)
      have d4 : wr.cell? ⟨bb, off + k * 6 + 4, none⟩ = some (.int .i64 p.N) := hck 4 (by omega)
      have d5 : wr.cell? ⟨bb, off + k * 6 + 5, none⟩ = some (.int .i64 p.M) := hck 5 (by omega)
      clear hck
      have HAP : Hid (∀ x, inO p.ol x → p.ss ≠ [] → ¬ footW a oa x) := fun x hx h0 hf => by have := hfa x hf; have := hpok0.live x hx h0; omega
      go_wp2_with fail
      refine (write_any wr a oa ca 1099511627776 (bytesOf (ps.take k)) 0 p hpok HAP.out hW (.inl (by omega)) (by rw [HLAY.out]; show (bytesOf (ps.take k) ++ p.news).length ≤ _; rw [List.length_append]; have := HFIT.out; omega)).mono ?_
      rw [HLAY.out]
      rintro e w4 ⟨rfl, oa4, ca4, hW4, hf4, hk4⟩
      go_wp2_with fail
      go_roundw
      case rel => exact ⟨k + 1, oa4, ca4, by omega, by go_num, by rw [HBS.out]; exact hW4, foot_step hf4 hfa hK.size, hK.then hk4 (fun x hx => .inr (hfa x hx))⟩
      case measure => simp [intOf]; omega
    · have hkn : n = k := by omega
      subst hkn
      have e1 : ps.take n = ps := by rw [HN.out, List.take_length]
      rw [e1] at hW
      clear e1 hlt hk
      obtain ⟨B, hB⟩ : ∃ B, B = bytesOf ps := ⟨_, rfl⟩
      rw [← hB] at hW
      have HB : Hid (B = bytesOf ps) := hB
      have HBLEN : Hid (B.length = newsLen ps) := by show _ = _; rw [hB, bytesOf_length]
      clear hB
      have hBl : B.length ≤ 1073741824 := by have := HALL.out; have := HBLEN.out; omega
      have hby := hW.byt
      go_wp2_with fail
      refine (wOut_any wr a oa ca 1099511627776 B 0 hW).mono ?_
      rintro e w3 ⟨hk3, ⟨h0, _⟩ | ⟨_, oX, cX, rfl, hX3, hnX⟩⟩
      · exact absurd rfl h0
      have hW3 := hW.keeps hk3 (fun _ _ h => h)
      have hK3 := hK.trans hk3
      go_wp2_with fail
      refine (wLen_any w3 a oa ca 1099511627776 B 0 hW3).mono ?_
      rintro e w4 ⟨rfl, rfl⟩
      have hslX := hX3.sl hby (by omega)
      go_wp2_with fail
      refine (newReader_any w4 oX _ cX B rfl hslX (by omega)).mono ?_
      rintro e w5 ⟨b1, ob1, cb1, rfl, hR5, hf5, hk5⟩
      have hX5 := hX3.keeps hk5 (fun _ _ h => h)
      have hrow5 := (hX5.sl hby (by omega)).row
      have hcap5 := hX5.cap
      have r9 := fun u : World => row_lit u [9] (by decide) (by decide)
      have e9 : (vals [9]).toArray = #[Value.int .u8 9] := rfl
      rw [e9] at r9
      clear e9
      go_wp2_with (at_builtin; first
        | (refine wpList_app rfl _ _ rfl none 0 0 [] (by rfl) rfl (owns_nil w5) oX _ cX B (by rfl) rfl hcap5.2 hrow5 (by omega) ?_; intro o7 c7 w7 hown7 hfr7 hk7; rw [List.nil_append] at hown7)
        | (refine wpList_app rfl _ _ rfl o7 _ c7 B (by rfl) (by omega) (hown7.alloc _) (some ⟨w7.heap.size, 0, none⟩) 1 1 [9] (by rfl) rfl (by simp) (r9 w7) (by omega) ?_; intro o8 c8 w8 hown8 hfr8 hk8))
      have hnew7 : ∀ x, inO o7 x → w5.heap.size ≤ x := by
        intro x hx
        rcases hfr7.in x hx with ⟨y, hy, _⟩ | h'
        · cases hy
        · exact h'
      have hk7' : Keeps (fun _ => False) w5 w7 := hk7.mono (fun i ⟨x, h, _⟩ => by cases h)
      have hk58 : Keeps (fun _ => False) w5 w8 := (hk7'.alloc _).then hk8 (fun i hi => .inr (hnew7 i hi))
      have hby9 : ∀ c ∈ B ++ [9], c < 256 := app_lt hby (by decide)
      have hsl8 := hown8.sl hby9 (by simp; omega)
      refine (newReader_any w8 o8 _ c8 (B ++ [9]) (by simp) hsl8 (by simp; omega)).mono ?_
      rintro e w9 ⟨b2, ob2, cb2, rfl, hR9, hf9, hk9⟩
      have HR9 : Hid (IsR 68 w9 b2 ob2 cb2 (B ++ [9]) 0) := hR9
      clear hk7 hk8 hown7 hown8 hfr7 hfr8 hsl8 hR9 r9 hrow5 hcap5
      go_wp2_with fail
      refine (newWriter_any (B.length : Nat) w9 (by omega) (by omega)).mono ?_
      rintro e w10 ⟨rfl, hJ10, hk10⟩
      have hJ10' : IsW 65 w10 w9.heap.size none 0 B.length [] 0 := by simpa using hJ10
      obtain ⟨c1, hc1⟩ : ∃ c1, c1 = w9.heap.size := ⟨_, rfl⟩
      rw [← hc1] at hJ10' ⊢
      have HC1 : Hid (c1 = w9.heap.size) := hc1
      clear hc1 hJ10
      go_wp2_with fail
      refine (newWriter_any ((B.length : Nat) - 1 : Int) w10 (by omega) (by omega)).mono ?_
      rintro e w11 ⟨rfl, hL11, hk11⟩
      have hL11' : IsW 65 w11 w10.heap.size none 0 (B.length - 1) [] 0 := by
        have e : ((B.length : Nat) - 1 : Int).toNat = B.length - 1 := by omega
        rw [e] at hL11; exact hL11
      obtain ⟨d1, hd1⟩ : ∃ d1, d1 = w10.heap.size := ⟨_, rfl⟩
      rw [← hd1] at hL11' ⊢
      have HD1 : Hid (d1 = w10.heap.size) := hd1
      clear hd1 hL11
      have HF : Hid (∃ own, Four w w11 b1 ob1 cb1 B b2 ob2 cb2 (B ++ [9]) c1 none 0 B.length [] 0 d1 none 0 (B.length - 1) [] 0 oX cX B own) := by
        have s4 : w.heap.size ≤ w4.heap.size := hK3.size
        have s8 : w4.heap.size ≤ w8.heap.size := Nat.le_trans hk5.size hk58.size
        have s9 := hk9.size
        have s10 := hk10.size
        have tx0 : Tag w.heap.size (fun _ => 5) 5 (inO oX) := fun k hk => ⟨rfl, Nat.le_trans hK.size (hnX k hk)⟩
        have tr1 : Tag w.heap.size (bump (fun _ => 5) w4.heap.size 1) 1 (footW b1 ob1) := tag_new _ _ _ hf5 s4
        have tx1 := tx0.bump w4.heap.size 1 hX3.lt
        have tm2 : Tag w.heap.size (bump (bump (fun _ => 5) w4.heap.size 1) w8.heap.size 2) 2 (footW b2 ob2) := tag_new _ _ _ hf9 (by omega)
        have lr8 : ∀ k, footW b1 ob1 k → k < w8.heap.size := fun k hk => Nat.lt_of_lt_of_le (hR5.lt k hk) hk58.size
        have lx8 : ∀ k, inO oX k → k < w8.heap.size := fun k hk => Nat.lt_of_lt_of_le (hX5.lt k hk) hk58.size
        have tr2 := tr1.bump w8.heap.size 2 lr8
        have tx2 := tx1.bump w8.heap.size 2 lx8
        have tj3 : Tag w.heap.size (bump (bump (bump (fun _ => 5) w4.heap.size 1) w8.heap.size 2) w9.heap.size 3) 3 (footW c1 none) := tag_new _ _ _ (by
          rintro k (rfl | ⟨x, h, _⟩)
          · exact Nat.le_of_eq HC1.out.symm
          · cases h) (by omega)
        have tr3 := tr2.bump w9.heap.size 3 (fun k hk => Nat.lt_of_lt_of_le (lr8 k hk) s9)
        have tx3 := tx2.bump w9.heap.size 3 (fun k hk => Nat.lt_of_lt_of_le (lx8 k hk) s9)
        have tm3 := tm2.bump w9.heap.size 3 HR9.out.lt
        have tl4 : Tag w.heap.size (bump (bump (bump (bump (fun _ => 5) w4.heap.size 1) w8.heap.size 2) w9.heap.size 3) w10.heap.size 4) 4 (footW d1 none) := tag_new _ _ _ (by
          rintro k (rfl | ⟨x, h, _⟩)
          · exact Nat.le_of_eq HD1.out.symm
          · cases h) (by omega)
        have tr4 := tr3.bump w10.heap.size 4 (fun k hk => Nat.lt_of_lt_of_le (lr8 k hk) (by omega))
        have tx4 := tx3.bump w10.heap.size 4 (fun k hk => Nat.lt_of_lt_of_le (lx8 k hk) (by omega))
        have tm4 := tm3.bump w10.heap.size 4 (fun k hk => Nat.lt_of_lt_of_le (HR9.out.lt k hk) s10)
        have tj4 := tj3.bump w10.heap.size 4 hJ10'.lt
        have kk : Keeps (fun _ => False) w5 w11 := ((hk58.trans hk9).trans hk10).trans hk11
        exact ⟨_, hR5.keeps kk (fun _ _ h => h), HR9.out.keeps (hk10.trans hk11) (fun _ _ h => h), hJ10'.keeps hk11 (fun _ _ h => h), hL11', hX5.keeps kk (fun _ _ h => h), tr4, tm4, tj4, tl4, tx4, (hK3.trans hk5).trans kk⟩
      clear hk11 hk10 hk9 hk58 hk7' hk5 hk3 hK hK3 hW hW3 hX3 hX5 hR5 hf5 hf9 hnX hslX hnew7 hJ10' hL11' HR9 hfa hby9 hBl
      obtain ⟨nB, hnB⟩ : ∃ nB, nB = B.length := ⟨_, rfl⟩
      rw [← hnB] at HBLEN HF ⊢
      have HNB : Hid (nB = B.length) := hnB
      have hnBl : nB ≤ 1073741824 := by have := HALL.out; have := HBLEN.out; omega
      clear hnB
      go_wp2_with fail
      go_loopw [13] (fun i wr => ∃ (k : Nat) (oa : Option Addr) (ca : Nat) (ob : Option Addr) (cb : Nat) (oc : Option Addr) (cc : Nat) (od : Option Addr) (cd : Nat) (own : Nat → Nat), k ≤ n ∧ i = .int .i64 k ∧ Four w wr b1 oa ca (bytesOf (ps.drop k)) b2 ob cb (bytesOf (ps.drop k) ++ [9]) c1 oc cc nB (bytesOf (ps.take k)) 0 d1 od cd (nB - 1) (wst (nB - 1) ([], 0) (ps.take k)).1 (wst (nB - 1) ([], 0) (ps.take k)).2 oX cX B own) (fun i _ => n - (intOf i).toNat)
      case atStart =>
        obtain ⟨own, hF⟩ := HF.out
        have hB0 := HB.out
        subst hB0
        exact ⟨0, ob1, cb1, ob2, cb2, none, 0, none, 0, own, by omega, rfl, hF⟩
      case round =>
        obtain ⟨k, oa, ca, ob, cb, oc, cc, od, cd, own, hk, rfl, hF⟩ := hrel
        clear HF
        by_cases hlt : k < n
        · have hks : k < ps.length := by have := HN.out; omega
          have hsr := hs.keeps hF.K
          have hmem := getD_mem ps k hks
          have hpok0 := hs.ok _ hmem
          have hbk := hbp _ hmem
          have hsmall := HSM.out _ hmem
          have hbd := bytesOf_drop ps k hks
          have hbs := bytesOf_snoc ps k hks
          have hbl := bytesOf_length (ps.take (k + 1))
          have hnt := newsLen_take ps (k + 1)
          have hws := wst_snoc (nB - 1) ([], 0) ps k hks
          have hwl := wst_len (nB - 1) (ps.take (k + 1)) ([], 0)
          have hrw := hs.row
          rcases hrw with h0 | ⟨bb, off, rfl, _⟩
          · rw [h0] at hks; simp at hks
          obtain ⟨p, hp⟩ : ∃ p, p = ps.getD k op0 := ⟨_, rfl⟩
          rw [← hp] at hpok0 hbk hbs hbd hws hsmall
          have HP : Hid (p = ps.getD k op0) := hp
          have HBD : Hid (bytesOf (ps.drop k) = p.news ++ bytesOf (ps.drop (k + 1))) := hbd
          have HBS : Hid (bytesOf (ps.take (k + 1)) = bytesOf (ps.take k) ++ p.news) := hbs
          have HWS : Hid (wst (nB - 1) ([], 0) (ps.take (k + 1)) = lay (nB - 1) (wst (nB - 1) ([], 0) (ps.take k)) p.news) := hws
          have HFIT : Hid ((bytesOf (ps.take k)).length + p.news.length ≤ nB) := by
            have := HBLEN.out
            have := HNB.out
            rw [hbs, List.length_append] at hbl
            show _ ≤ _
            omega
          have HWL : Hid ((lay (nB - 1) (wst (nB - 1) ([], 0) (ps.take k)) p.news).1.length ≤ 1073741824) := by
            rw [← hws]
            have := HBLEN.out
            have := HNB.out
            simp at hwl
            show _ ≤ _
            omega
          have HLAY : Hid (lay nB (bytesOf (ps.take k), 0) p.news = (bytesOf (ps.take k) ++ p.news, 0)) := lay_fits _ _ _ HFIT.out
          have HBST : Hid (p.bst (bytesOf (ps.drop k), 0) = (bytesOf (ps.drop (k + 1)), 0)) := by show _ = _; rw [hbd]; exact bst_full p hsmall _
          have HBST9 : Hid (p.bst (bytesOf (ps.drop k) ++ [9], 0) = (bytesOf (ps.drop (k + 1)) ++ [9], 0)) := by show _ = _; rw [hbd, List.append_assoc]; exact bst_full p hsmall _
          have HLV : Hid (∀ x, inO p.ol x → p.ss ≠ [] → x < w.heap.size) := hpok0.live
          clear hbd hbs hbl hnt hws hwl hp
          obtain ⟨d0, d1', d2, d3, d4, d5⟩ := cells6 hsr hks HP.out
          have hpk := hpok0.keeps hF.K (fun _ _ _ h => h)
          go_wp2_with fail
          refine (reads_any wr b1 oa ca (bytesOf (ps.drop k)) 0 p hpk (fun x hx h0 e => tag_old hF.tr (HLV.out x hx h0) (.inl e)) hF.r).mono ?_
          rw [HBST.out]
          rintro e w12 ⟨⟨Bq, rfl, hBq⟩, hst12⟩
          obtain rfl : Bq = true := hBq _ HBD.out rfl hsmall
          obtain ⟨oa2, ca2, hF2⟩ := hF.stepR hst12
          clear hst12 hF d0 d1' d2 d3 d4 d5 hpk hBq hsr
          have hsr := hs.keeps hF2.K
          obtain ⟨d0, d1', d2, d3, d4, d5⟩ := cells6 hsr hks HP.out
          have hpk := hpok0.keeps hF2.K (fun _ _ _ h => h)
          go_wp2_with fail
          refine (reads_any w12 b2 ob cb (bytesOf (ps.drop k) ++ [9]) 0 p hpk (fun x hx h0 e => tag_old hF2.tm (HLV.out x hx h0) (.inl e)) hF2.m).mono ?_
          rw [HBST9.out]
          rintro e w13 ⟨⟨Bq, rfl, hBq⟩, hst13⟩
          obtain rfl : Bq = true := hBq _ (by rw [HBD.out, List.append_assoc]) rfl hsmall
          obtain ⟨ob3, cb3, hF3⟩ := hF2.stepM hst13
          clear hst13 hF2 d0 d1' d2 d3 d4 d5 hpk hBq hsr
          have hsr := hs.keeps hF3.K
          obtain ⟨d0, d1', d2, d3, d4, d5⟩ := cells6 hsr hks HP.out
          have hpk := hpok0.keeps hF3.K (fun _ _ _ h => h)
          go_wp2_with fail
          refine (write_any w13 c1 oc cc nB (bytesOf (ps.take k)) 0 p hpk (fun x hx h0 => tag_old hF3.tj (HLV.out x hx h0)) hF3.j (.inl (by omega)) (by rw [HLAY.out]; show (bytesOf (ps.take k) ++ p.news).length ≤ _; rw [List.length_append]; have := HFIT.out; omega)).mono ?_
          rw [HLAY.out]
          rintro e w14 ⟨rfl, hst14⟩
          obtain ⟨oc4, cc4, own4, hF4⟩ := hF3.stepJ hst14
          simp only at hF4
          clear hst14 hF3 d0 d1' d2 d3 d4 d5 hpk hsr
          have hsr := hs.keeps hF4.K
          obtain ⟨d0, d1', d2, d3, d4, d5⟩ := cells6 hsr hks HP.out
          have hpk := hpok0.keeps hF4.K (fun _ _ _ h => h)
          go_wp2_with fail
          refine (write_any w14 d1 od cd (nB - 1) _ _ p hpk (fun x hx h0 => tag_old hF4.tl (HLV.out x hx h0)) hF4.l (.inl (by omega)) (Nat.le_trans HWL.out (by omega))).mono ?_
          rintro e w15 ⟨rfl, hst15⟩
          obtain ⟨od5, cd5, own5, hF5⟩ := hF4.stepL hst15
          clear hst15 hF4 d0 d1' d2 d3 d4 d5 hpk hsr
          go_wp2_with fail
          go_roundw
          case rel =>
            refine ⟨k + 1, oa2, ca2, ob3, cb3, oc4, cc4, od5, cd5, own5, by omega, by go_num, ?_⟩
            rw [HBS.out, HWS.out]
            exact hF5
          case measure => simp [intOf]; omega
        · have hkn : n = k := by omega
          subst hkn
          have e1 : ps.take n = ps := by rw [HN.out, List.take_length]
          have e2 : bytesOf (ps.drop n) = [] := by rw [HN.out, List.drop_length]; rfl
          rw [e1, e2, ← HB.out] at hF
          simp only [List.nil_append] at hF
          clear e1 e2 hlt hk
          have HW1 : Hid (newsLen ps ≤ nB - 1 → wst (nB - 1) ([], 0) ps = (bytesOf ps, 0)) := fun h => by have := wst_fits (nB - 1) ps [] (by simpa using h); simpa using this
          have HW2 : Hid (nB - 1 < newsLen ps → (wst (nB - 1) ([], 0) ps).2 = 3) := fun h => wst_over (nB - 1) ps [] (by simp) (by simpa using h)
          generalize wst (nB - 1) ([], 0) ps = st at hF HW1 HW2
          obtain ⟨lb, le⟩ := st
          simp only at hF HW2
          go_wp2_with fail
          refine (wOut_any wr c1 oc cc nB B 0 hF.j).mono ?_
          rintro e w12 ⟨hk12, ⟨h0, _⟩ | ⟨_, oY, cY, rfl, _, _⟩⟩
          · exact absurd rfl h0
          have hF2 := hF.keep hk12
          clear hF hk12
          go_wp2_with fail
          refine (wOut_any w12 d1 od cd (nB - 1) lb le hF2.l).mono ?_
          have hfitL := hF2.l.fit
          by_cases hz : nB = 0
          · have hW1 := HW1.out (by have := HBLEN.out; have := HNB.out; omega)
            have hle : le = 0 := (Prod.mk.inj hW1).2
            have hlb : lb.length = 0 := by omega
            subst hle
            clear hW1 HW1 HW2
            rintro e w13 ⟨hk13, ⟨h0, _⟩ | ⟨_, oZ, cZ, rfl, _, _⟩⟩
            · exact absurd rfl h0
            have hF3 := hF2.keep hk13
            clear hF2 hk13
            go_wp2_with fail
            refine (rEnd_any w13 b1 oa ca [] 0 hF3.r).mono ?_
            rintro e w14 ⟨rfl, rfl⟩
            rw [show rend [] 0 = 0 from rfl]
            go_wp2_with fail
            refine (rLeft_any w14 b1 oa ca [] 0 hF3.r).mono ?_
            rintro e w14 ⟨rfl, rfl⟩
            go_wp2_with fail
            refine (rEnd_any w14 b2 ob cb [9] 0 hF3.m).mono ?_
            rintro e w14 ⟨rfl, rfl⟩
            rw [show rend [9] 0 = 5 from rfl]
            go_wp2_with fail
            refine (rErr_any w14 b2 ob cb [9] 0 hF3.m).mono ?_
            rintro e w14 ⟨rfl, rfl⟩
            go_wp2_with fail
            refine (rLeft_any w14 b2 ob cb [9] 0 hF3.m).mono ?_
            rintro e w14 ⟨rfl, rfl⟩
            rw [show ([9] : List Nat).length = 1 from rfl]
            go_wp2
            go_ret
            exact ⟨by simp, hF3.K⟩
          · have hW2 := HW2.out (by have := HBLEN.out; have := HNB.out; omega)
            subst hW2
            have hlb : ¬ ((nB : Nat) : Int) ≤ (lb.length : Nat) := by omega
            have hz' : ¬ ((nB : Nat) : Int) = 0 := by omega
            clear HW1 HW2
            rintro e w13 ⟨hk13, ⟨_, rfl⟩ | ⟨h0, _⟩⟩
            rotate_left
            · cases h0
            have hF3 := hF2.keep hk13
            clear hF2 hk13
            go_wp2_with fail
            refine (rEnd_any w13 b1 oa ca [] 0 hF3.r).mono ?_
            rintro e w14 ⟨rfl, rfl⟩
            rw [show rend [] 0 = 0 from rfl]
            go_wp2_with fail
            refine (rLeft_any w14 b1 oa ca [] 0 hF3.r).mono ?_
            rintro e w14 ⟨rfl, rfl⟩
            go_wp2_with fail
            refine (rEnd_any w14 b2 ob cb [9] 0 hF3.m).mono ?_
            rintro e w14 ⟨rfl, rfl⟩
            rw [show rend [9] 0 = 5 from rfl]
            go_wp2_with fail
            refine (rErr_any w14 b2 ob cb [9] 0 hF3.m).mono ?_
            rintro e w14 ⟨rfl, rfl⟩
            go_wp2_with fail
            refine (rLeft_any w14 b2 ob cb [9] 0 hF3.m).mono ?_
            rintro e w14 ⟨rfl, rfl⟩
            rw [show ([9] : List Nat).length = 1 from rfl]
            go_wp2_with fail
            refine (wLen_any w14 d1 od cd (nB - 1) lb 3 hF3.l).mono ?_
            rintro e w14 ⟨rfl, rfl⟩
            go_wp2_with fail
            rw [show ((nB : Nat) : Int) - 1 = ((nB - 1 : Nat) : Int) by omega]
            refine (rest_any cut (nB - 1) w14 h1 h2 (by omega)).mono ?_
            rintro e w15 ⟨⟨r, hr, rfl⟩, rfl⟩
            have hslX := hF3.x.sl hby (by have := HNB.out; omega)
            obtain ⟨A, dA, hcut, hslA, hsubA⟩ := cut_h w15 oX cX B nB r r rfl HNB.out (by omega) hslX
            have HSLA : Hid (Sl w15 A dA (B.take r)) := hslA
            have hlr : r = (B.take r).length := by rw [List.length_take]; have := HNB.out; omega
            have HLR : Hid (r = (B.take r).length) := hlr
            clear hslA hslX hlr
            go_wp2_with fail
            refine (newReader_any w15 A _ dA (B.take r) HLR.out HSLA.out (by rw [← HLR.out]; omega)).mono ?_
            rintro e w16 ⟨b3, ob3, cb3, rfl, hR16, hf16, hk16⟩
            have HR16 : Hid (IsR 68 w16 b3 ob3 cb3 (B.take r) 0) := hR16
            have HK16 : Hid (Keeps (fun _ => False) w w16) := hF3.K.trans hk16
            have HF16 : Hid (∀ x, footW b3 ob3 x → w.heap.size ≤ x) := fun x hx => Nat.le_trans hF3.K.size (hf16 x hx)
            have HEND : Hid ((bsts (B.take r, 0) ps).2 = 4) := by
              have := bsts_short ps r HSM.out (by have := HBLEN.out; have := HNB.out; omega)
              rw [← HB.out] at this
              exact this
            clear hR16 hf16 hk16 hF3 hcut hsubA HSLA HLR hr hlb
            go_wp2_with fail
            go_loopw [19] (fun i wr => ∃ (k : Nat) (oa : Option Addr) (ca : Nat), k ≤ n ∧ i = .int .i64 k ∧ IsR 68 wr b3 oa ca (bsts (B.take r, 0) (ps.take k)).1 (bsts (B.take r, 0) (ps.take k)).2 ∧ (∀ x, footW b3 oa x → w.heap.size ≤ x) ∧ Keeps (fun _ => False) w wr) (fun i _ => n - (intOf i).toNat)
            case atStart => exact ⟨0, ob3, cb3, by omega, rfl, HR16.out, HF16.out, HK16.out⟩
            case round =>
              obtain ⟨k, oQ, cQ, hk, rfl, hR, hfR, hKR⟩ := hrel
              clear HR16 HK16 HF16
              by_cases hlt : k < n
              · have hks : k < ps.length := by have := HN.out; omega
                have hsr := hs.keeps hKR
                have hmem := getD_mem ps k hks
                have hpok0 := hs.ok _ hmem
                have hbs := bsts_snoc (B.take r, 0) ps k hks
                have hrw := hs.row
                rcases hrw with h0 | ⟨bb, off, rfl, _⟩
                · rw [h0] at hks; simp at hks
                obtain ⟨p, hp⟩ : ∃ p, p = ps.getD k op0 := ⟨_, rfl⟩
                rw [← hp] at hpok0 hbs
                have HBS : Hid (bsts (B.take r, 0) (ps.take (k + 1)) = p.bst (bsts (B.take r, 0) (ps.take k))) := hbs
                have HLV : Hid (∀ x, inO p.ol x → p.ss ≠ [] → x < w.heap.size) := hpok0.live
                obtain ⟨d0, d1', d2, d3, d4, d5⟩ := cells6 hsr hks hp
                have hpk := hpok0.keeps hKR (fun _ _ _ h => h)
                clear hbs hp
                go_wp2_with fail
                refine (reads_any wr b3 oQ cQ _ _ p hpk (fun x hx h0 e => by have := HLV.out x hx h0; have := hfR x (.inl e); omega) hR).mono ?_
                rintro e w17 ⟨⟨Bq, rfl, _⟩, oQ2, cQ2, hR2, hs2, hk2⟩
                go_wp2_with fail
                go_roundw
                case rel => exact ⟨k + 1, oQ2, cQ2, by omega, by go_num, by rw [HBS.out]; exact hR2, fun x hx => hfR x (foot_sub' hs2 x hx), hKR.then hk2 (fun x hx => .inr (hfR x (.inl hx)))⟩
                case measure => simp [intOf]; omega
              · have hkn : n = k := by omega
                subst hkn
                have e1 : ps.take n = ps := by rw [HN.out, List.take_length]
                rw [e1] at hR
                have hE := HEND.out
                generalize bsts (B.take r, 0) ps = st at hR hE
                obtain ⟨qs, qe⟩ := st
                simp only at hR hE
                subst hE
                clear e1
                go_wp2_with fail
                refine (rErr_any wr b3 oQ cQ qs 4 hR).mono ?_
                rintro e w17 ⟨rfl, rfl⟩
                go_wp2_with fail
                refine (rEnd_any w17 b3 oQ cQ qs 4 hR).mono ?_
                rintro e w17 ⟨rfl, rfl⟩
                rw [show rend qs 4 = 4 by simp [rend]]
                go_wp2
                go_ret
                exact ⟨rfl, hKR⟩
end Go.Proofs.Ytclheacjhkoocaa
