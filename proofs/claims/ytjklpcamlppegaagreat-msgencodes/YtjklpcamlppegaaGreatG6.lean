import Derived.Test.YtjklpcamlppegaaGreatG4
import Derived.Test.YtjklpcamlppegaaGreatF4
/- The document's bytes of a version. -/
namespace Go.Proofs.YtjklpcamlppegaaGreat
open Go.RowKit Go.Sort Orl Pk
set_option linter.unusedVariables false
set_option linter.unusedSimpArgs false

def BE : El Nat := ⟨5, 38, 1, 1, fun c => [.int .u8 (c : Nat)]⟩
theorem okB : BE.Ok := by
  obtain ⟨i0, hi, hz0, hz1, hz2⟩ := info_parts info5
  exact ⟨fun _ => rfl, fun x u hu => by simp [BE] at hu; subst hu; rfl, by decide, Tryz.underlying38, i0, _, hi, hz0, hz1, hz2, rfl⟩
theorem cells_BN (bs : List Nat) : BE.cells bs = vals bs := by
  induction bs with
  | nil => rfl
  | cons x r ih =>
    simp only [El.cells, BE, List.flatMap_cons, vals, List.map_cons] at ih ⊢
    rw [ih]; rfl
theorem ownB_iff (w : World) (o : Option Addr) (c : Nat) (bs : List Nat) : Own BE w o c bs ↔ Owns w o c bs := by
  unfold Own Owns; rw [cells_BN]; exact Iff.rfl
theorem rowB_of {w : World} {o : Option Addr} {bs : List Nat} (h : BRow w o bs) : Row BE w o bs := by
  obtain ⟨_, _, h⟩ := h
  rcases h with h | ⟨b, off, e, hc⟩
  · exact .inl h
  · refine .inr ⟨b, off, e, fun j u hj => ?_⟩
    rw [cells_BN] at hj
    have hjl : j < bs.length := by have := (List.getElem?_eq_some_iff.mp hj).1; simpa [vals] using this
    rw [hc j hjl]
    simp [vals, hjl] at hj
    simp [hjl, hj]
theorem step_appB {w : World} {ops : Array Oper} {o : Oper} {a : Act} {K : Act → World → Prop} {Q : Exit → Act → World → Prop} {Ep : Prop} (hgd : o.guard = none) (s x : Operand)
    (ho : o.op = .call { callee := .builtin .append, args := #[s, x], argTypes := #[38, 38] })
    (oa : Option Addr) (n c : Nat) (xs : List Nat) (hs : a.eval s = .slice oa n c) (hn : n = xs.length) (hown : Owns w oa c xs)
    (ox : Option Addr) (m d : Nat) (news : List Nat) (hx : a.eval x = .slice ox m d) (hm : m = news.length) (hd : ox = none → d = 0) (hrow : BRow w ox news)
    (hb2 : xs.length + news.length ≤ 140737488355328)
    (h : ∀ o' c' w', Owns w' o' c' (xs ++ news) → Ap w oa o' w' → K (a.put o.dst (.slice o' (n + m) c')) w') :
    if Region.wanted o (yielded ops a.tmps) = true then Oper.wp Tryz.prog o a w K Q else Ep := by
  have hw : Region.wanted o (yielded ops a.tmps) = true := by simp [Region.wanted, hgd]
  rw [if_pos hw]
  subst hn hm
  obtain ⟨o', c', w', hr, h1, h2⟩ := run_app okB w o.type oa c xs ((ownB_iff _ _ _ _).2 hown) ox d news hd (rowB_of hrow) (by show _ * 1 ≤ _; omega) hb2
  unfold Oper.wp execOp
  have hr' : (Builtin.append_ #[38, 38] o.type #[.slice oa xs.length c, .slice ox news.length d]).run Tryz.prog w = .ok (.slice o' (xs.length + news.length) c') w' := hr
  simp only [ho, resolve, invoke, builtin, Sem.run_bind, Sem.run_pure, Result.andThen_ok, List.map_toArray, List.map_cons, List.map_nil, hs, hx, hr']
  exact h o' c' w' ((ownB_iff _ _ _ _).1 h1) h2

theorem Owns.keepsN' {w w' : World} {o : Option Addr} {c : Nat} {bs : List Nat} (h : Owns w o c bs) (k : Keeps no w w') : Owns w' o c bs := h.keeps k (fun _ _ h => h)
/-- bytes told, in new memory -/
def TellsN (w : World) (bs : List Nat) (e : Ending) (w' : World) : Prop := ∃ o n c, e = .returned (.slice o n c) ∧ Hid (n = bs.length) ∧ Owns w' o c bs ∧ New w o ∧ Keeps no w w'
theorem num8_any (w : World) (v : Nat) (hv : v < 18446744073709551616) : Calls Tryz.prog 37 #[.int .u64 (v : Nat), .int .i64 8] w (TellsN w (num 8 v)) := by
  refine (refNumber_any w v 8 hv (by omega)).mono ?_
  rintro e w' ⟨o, c, n, rfl, hn, ho, hnew, hk⟩
  exact ⟨o, n, c, rfl, (by show _ = _; rw [num_length]; exact hn.out), ho, hnew, hk⟩
theorem num4_any (w : World) (v : Nat) (hv : v < 18446744073709551616) : Calls Tryz.prog 37 #[.int .u64 (v : Nat), .int .i64 4] w (TellsN w (num 4 v)) := by
  refine (refNumber_any w v 4 hv (by omega)).mono ?_
  rintro e w' ⟨o, c, n, rfl, hn, ho, hnew, hk⟩
  exact ⟨o, n, c, rfl, (by show _ = _; rw [num_length]; exact hn.out), ho, hnew, hk⟩
theorem text_any (w : World) (s : Tx) (hs : s.size ≤ 65535) : Calls Tryz.prog 69 #[.string s] w (TellsN w (txt (nats s))) := by
  refine (refText_any w s (by omega)).mono ?_
  rintro e w' ⟨o, c, n, rfl, hn, ho, hnew, hk⟩
  exact ⟨o, n, c, rfl, hn, ho, hnew, hk⟩
theorem texts_any (w : World) (a : Option Addr) (n c : Nat) (ss : List Tx) (hn : n = ss.length) (hs : Txs ss) (hsl : Sl TE w a c ss) : Calls Tryz.prog 68 #[.slice a n c] w (TellsN w (txts (natss ss))) := by
  have hb := hs.all
  have := hs.1
  refine (refTexts_any w a n c ss hn (rowS_of hsl) (fun s h => by have := hs.2 s h; omega) (by omega) (by omega)).mono ?_
  rintro e w' ⟨o, c, n, rfl, hn, ho, hnew, hk⟩
  exact ⟨o, n, c, rfl, hn, ho, hnew, hk⟩

set_option maxRecDepth 10000 in
set_option maxHeartbeats 4000000 in
theorem version_any (w : World) (v : Ver) (key : Tx) (id : Nat) (val : Tx) (ol : Option Addr) (n c : Nat) (hv : VerOf w ⟨key, id, val, ol, n, c⟩ v) (hf : OkV v) (hid : id < 18446744073709551616) :
    Calls Tryz.prog 70 #[.agg #[.string key, .int .u64 (id : Nat), .string val, .slice ol n c]] w (TellsN w (layV v)) := by
  obtain ⟨k', i', x', ks⟩ := v
  obtain ⟨h1, h2, h3, h4, h5⟩ := hv
  simp only at h1 h2 h3 h4 h5
  subst h1 h2 h3
  obtain ⟨f1, f2, f3⟩ := hf
  simp only at f1 f2 f3
  have HN : Hid (n = ks.length) := h4
  obtain ⟨L, hL⟩ : ∃ L, L = layV ⟨key, id, val, ks⟩ := ⟨_, rfl⟩
  rw [← hL]
  have HL : Hid (L = txt (nats key) ++ (num 8 id ++ (if id = 0 then [] else txt (nats val) ++ txts (natss ks)))) := hL
  have hkl : Hid ((txt (nats key)).length = 4 + key.size) := by show _ = _; rw [txt_length, nats_length]
  have hk0 : Keeps no w (w.alloc (.cells #[.string key, .int .u64 (id : Nat), .string val, .slice ol n c] 46)) := (Keeps.refl _ _).alloc _
  have hB := blk_new w (.cells #[.string key, .int .u64 (id : Nat), .string val, .slice ol n c] 46)
  obtain ⟨A, hA⟩ : ∃ A, A = w.heap.size := ⟨_, rfl⟩
  have HA : Hid (A = w.heap.size) := hA
  clear h4 hL
  go_enter Tryz.func70, Tryz.ntmps70
  go_wp2_with fail
  rw [← hA] at hB ⊢
  clear hA
  obtain ⟨W, hW⟩ : ∃ W, W = w.alloc (.cells #[.string key, .int .u64 (id : Nat), .string val, .slice ol n c] 46) := ⟨_, rfl⟩
  rw [← hW] at hB hk0 ⊢
  clear hW
  obtain ⟨x0, x1, x2, x3⟩ := cells4 hB
  have HB : Hid (W.heap[A]? = some (.cells #[.string key, .int .u64 (id : Nat), .string val, .slice ol n c] 46 (0, 0))) := hB
  clear hB
  go_region_law (first
    | (go_simp; go_at_call 69; refine (text_any _ key f1).mono ?_; rintro e w5 ⟨oT, nT, cT, rfl, hnT, hoT, hwT, kT⟩; (first | (have KT : Hid (Keeps no W w5) := Keeps.trans (kd rfl rfl rfl rfl : Keeps no W W.drew) kT) | (have KT : Hid (Keeps no W w5) := KN.out.trans kT)); have q0 := KT.out.cellN x0; have q1 := KT.out.cellN x1)
    | (go_simp; go_at_call 37; refine (num8_any _ id hid).mono ?_; rintro e w6 ⟨oN, nN, cN, rfl, hnN, hoN, hwN, kN⟩; (first | (have KN : Hid (Keeps no W w6) := KT.out.trans kN) | (have KN : Hid (Keeps no W w6) := Keeps.trans (kd rfl rfl rfl rfl : Keeps no W W.drew) kN)); have p0 := KN.out.cellN x0; have p1 := KN.out.cellN x1)
    | (refine step_appB rfl (.tmp 6) (.tmp 9) rfl oT nT cT (txt (nats key)) ?_ hnT.out ?_ oN nN cN (num 8 id) ?_ hnN.out ?_ ?_ ?_ ?_; rfl; exact hoT.keepsN' kN; rfl; exact hoN.cap.2; exact hoN.row (num_lt _ _) (by rw [num_length]; omega); (rw [hkl.out, num_length]; omega); intro o7 c7 w7 ho7 hap7; have HN7 : Hid (New W o7 ∧ Keeps no W w7) := hap7.new (w0 := W) (hwT.of_le (Nat.le_refl _)) KN.out)
    | (refine step_appB rfl (.tmp 6) (.tmp 9) rfl oT nT cT (txt (nats key)) ?_ hnT.out hoT oN nN cN (num 8 id) ?_ hnN.out ?_ ?_ ?_ ?_; rfl; rfl; exact hoN.cap.2; exact (hoN.row (num_lt _ _) (by rw [num_length]; omega)).keeps kT (fun _ _ h => h); (rw [hkl.out, num_length]; omega); intro o7 c7 w7 ho7 hap7; have HN7 : Hid (New W o7 ∧ Keeps no W w7) := hap7.new (w0 := W) (hwT.of_le KN.out.size) KT.out))
  all_goals
    have HL7 : Hid (nT + nN = (txt (nats key) ++ num 8 id).length) := by show _ = _; rw [List.length_append, hnT.out, hnN.out]
    have HO7 : Hid (Owns w7 o7 c7 (txt (nats key) ++ num 8 id)) := ho7
    have hl7 : Hid ((txt (nats key) ++ num 8 id).length = 12 + key.size) := by show _ = _; rw [List.length_append, hkl.out, num_length]; omega
    obtain ⟨z0, z1, z2, z3⟩ := cells4 (HN7.out.2.at HB.out (fun h => h))
    obtain ⟨N7, hN7⟩ : ∃ N, N = nT + nN := ⟨_, rfl⟩
    rw [← hN7] at HL7 ⊢
    clear hN7 ho7 hap7
    by_cases hi : id = 0
    · subst hi
      rw [if_pos rfl, List.append_nil] at HL
      go_wp2
      go_ret
      refine ⟨o7, N7, c7, rfl, ?_, ?_, HN7.out.1.of_le hk0.size, hk0.trans HN7.out.2⟩
      · rw [HL.out]; exact HL7
      · rw [HL.out]; exact HO7.out
    · have hi2 : ((id : Int) == 0) = false := by simp; omega
      have hi3 : ¬ ((id : Int) = 0) := by omega
      rw [if_neg hi] at HL
      have hvl : Hid ((txt (nats val)).length = 4 + val.size) := by show _ = _; rw [txt_length, nats_length]
      go_wp2_with fail
      refine (text_any w7 val f2).mono ?_
      rintro e w8 ⟨oV, nV, cV, rfl, hnV, hoV, hwV, kV⟩
      obtain ⟨y0, y1, y2, y3⟩ := cells4 ((HN7.out.2.trans kV).at HB.out (fun h => h))
      go_wp2_with (at_builtin; go_must (refine wpList_appB rfl _ _ rfl o7 N7 c7 (txt (nats key) ++ num 8 id) rfl HL7.out (HO7.out.keepsN' kV) oV nV cV (txt (nats val)) rfl hnV.out hoV.cap.2 (hoV.row (txt_lt _) (by rw [hvl.out]; omega)) (by have := HL7.out; have := hnV.out; rw [hl7.out] at *; rw [hvl.out] at *; omega) ?_); intro o9 c9 w9 ho9 hfr9 hk9; have HN9 : Hid (New W o9 ∧ Keeps no W w9) := hfr9.new hk9 HN7.out.1 (HN7.out.2.trans kV); obtain ⟨u0, u1, u2, u3⟩ := cells4 (HN9.out.2.at HB.out (fun h => h)))
      have HO9 : Hid (Owns w9 o9 c9 (txt (nats key) ++ num 8 id ++ txt (nats val))) := ho9
      have HL9 : Hid (N7 + nV = (txt (nats key) ++ num 8 id ++ txt (nats val)).length) := by show _ = _; rw [List.length_append, ← HL7.out, ← hnV.out]
      have hl9 : Hid ((txt (nats key) ++ num 8 id ++ txt (nats val)).length = 16 + key.size + val.size) := by show _ = _; rw [List.length_append, hl7.out, hvl.out]; omega
      have hsb := f3.all
      have hxl : Hid ((txts (natss ks)).length = 4 + bodyLen (natss ks)) := txts_length _
      clear ho9 hfr9 hk9
      refine (texts_any w9 ol n c ks HN.out f3 (h5.keepsN (hk0.trans HN9.out.2))).mono ?_
      rintro e w10 ⟨oX, nX, cX, rfl, hnX, hoX, hwX, kX⟩
      go_wp2_with (at_builtin; go_must (refine wpList_appB rfl _ _ rfl o9 _ c9 (txt (nats key) ++ num 8 id ++ txt (nats val)) rfl HL9.out (HO9.out.keepsN' kX) oX nX cX (txts (natss ks)) rfl hnX.out hoX.cap.2 (hoX.row (btxts_lt _) (by rw [hxl.out]; omega)) (by have h1 := HL9.out; have h2 := hnX.out; rw [hl9.out] at h1; rw [hxl.out] at h2; omega) ?_); intro o11 c11 w11 ho11 hfr11 hk11; have HN11 : Hid (New W o11 ∧ Keeps no W w11) := hfr11.new hk11 HN9.out.1 (HN9.out.2.trans kX))
      go_ret
      refine ⟨o11, _, c11, rfl, ?_, ?_, HN11.out.1.of_le hk0.size, hk0.trans HN11.out.2⟩
      · show _ = _
        rw [HL.out, HL9.out, hnX.out, ← List.length_append]; simp only [List.append_assoc]
      · rw [HL.out]; simpa only [List.append_assoc] using ho11
end Go.Proofs.YtjklpcamlppegaaGreat
/- The document's Body, Size, Encode. -/
namespace Go.Proofs.YtjklpcamlppegaaGreat
open Go.RowKit Go.Sort Orl Pk
set_option linter.unusedVariables false
set_option linter.unusedSimpArgs false

/-- bytes of the call's own so far -/
structure Has (w0 : World) (o : Option Addr) (n c : Nat) (X : List Nat) (w : World) : Prop where
  own : Owns w o c X
  n : n = X.length
  new : New w0 o
  kp : Keeps no w0 w
theorem Has.call {w0 : World} {o : Option Addr} {n c : Nat} {X : List Nat} {w w' : World} (h : Has w0 o n c X w) (k : Keeps no w w') : Has w0 o n c X w' := ⟨h.own.keepsN' k, h.n, h.new, h.kp.trans k⟩
theorem Has.app {w0 : World} {o : Option Addr} {n c : Nat} {X : List Nat} {w : World} (h : Has w0 o n c X w) {Y : List Nat} {m : Nat} (hm : m = Y.length) {o' : Option Addr} {c' : Nat} {w' : World} (ho : Owns w' o' c' (X ++ Y)) (hf : Fresh w o o') (hk : Keeps (inO o) w w') : Has w0 o' (n + m) c' (X ++ Y) w' :=
  have := hf.new hk h.new h.kp
  ⟨ho, by rw [List.length_append, h.n, hm], this.1, this.2⟩
/-- append(b, X...) with X told by a call -/
theorem wpList_has {w0 w1 w : World} {ops : Array Oper} {rest : List Oper} {op : Oper} {a : Act} {Q : Exit → Act → World → Prop} (hgd : op.guard = none) (s x : Operand)
    (hop : op.op = .call { callee := .builtin .append, args := #[s, x], argTypes := #[38, 38] })
    {o : Option Addr} {n c : Nat} {X : List Nat} (hs : a.eval s = .slice o n c) (h : Has w0 o n c X w1) {ox : Option Addr} {m d : Nat} {Y : List Nat} (hx : a.eval x = .slice ox m d) (hm : m = Y.length) (hY : Owns w ox d Y) (hby : ∀ c ∈ Y, c < 256) (hk : Keeps no w1 w)
    (hb : n + m ≤ 140737488355328)
    (hh : ∀ o' c' w', Has w0 o' (n + m) c' (X ++ Y) w' → wpList Tryz.prog ops Q rest (a.put op.dst (.slice o' (n + m) c')) w') : wpList Tryz.prog ops Q (op :: rest) a w :=
  wpList_appB hgd s x hop o n c X hs h.n (h.call hk).own ox m d Y hx hm hY.cap.2 (hY.row hby (by omega)) hb (fun o' c' w' h1 h2 h3 => hh o' c' w' ((h.call hk).app hm h1 h2 h3))

theorem Sl.atP' {w : World} {b off c : Nat} {xs : List Pr} (h : Sl PE w (some ⟨b, off, none⟩) c xs) {j : Nat} (hj : j < xs.length) : w.cell? ⟨b, off + j * 2, none⟩ = some (.string (xs.getD j p0).1) ∧ w.cell? ⟨b, off + j * 2 + 1, none⟩ = some (.string (xs.getD j p0).2) := by
  obtain ⟨b', off', e, h1, h2⟩ := h.atP hj
  cases e
  exact ⟨h1, h2⟩
theorem Sl.atW' {w : World} {b off c : Nat} {xs : List Wn} (h : Sl WE w (some ⟨b, off, none⟩) c xs) {j : Nat} (hj : j < xs.length) : w.cell? ⟨b, off + j * 2, none⟩ = some (.string (xs.getD j w0').1) ∧ w.cell? ⟨b, off + j * 2 + 1, none⟩ = some (.int .u64 ((xs.getD j w0').2 : Nat)) := by
  obtain ⟨b', off', e, h1, h2⟩ := h.atW hj
  cases e
  exact ⟨h1, h2⟩
theorem top_row (K C : Nat) (hK : K < 256) (hC : C < 256) : #[Value.int .u8 (K : Nat), .int .u8 (C : Nat)] = (vals (num 1 K ++ num 1 C)).toArray := by
  have h1 : K % 256 = K := Nat.mod_eq_of_lt hK
  have h2 : C % 256 = C := Nat.mod_eq_of_lt hC
  simp [num, vals, h1, h2]
theorem has_lit (w : World) (X : List Nat) (n : Nat) (hn : n = X.length) (hx : X.length ≤ 1000) : Has w (some ⟨w.heap.size, 0, none⟩) n n X (w.alloc (.cells (vals X).toArray 5)) := by
  refine ⟨?_, hn, new_fresh _ _ (Nat.le_refl _) _, (Keeps.refl _ _).alloc _⟩
  refine ⟨by simp [vals], .inr ⟨w.heap.size, n, (vals X).toArray, by rw [← hn], Nat.zero_le _, blk_new w _, by omega, by unfold maxLen; omega, by simp [vals, hn], ?_⟩⟩
  exact List.take_of_length_le (by simp [vals])
end Go.Proofs.YtjklpcamlppegaaGreat
