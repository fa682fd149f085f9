/- The document's disk: List, Append. -/
import Derived.Test.YtgobakfffobpkaaR6
namespace Go.Proofs.Ytgobakfffobpkaa
open Go.RowKit Dk
set_option linter.unusedVariables false
set_option linter.unusedSimpArgs false

theorem RD.names {w : World} {r : Nat} {F : Nat → Prop} {s : St} {oF : Option Addr} {cF : Nat} {fs : List RF} (h : RD w r F s oF cF fs) : (Dk.names s.fs).map mkT = fs.map (·.nm) := by
  rw [h.eq]
  simp [Dk.names, Function.comp_def, RF.ent, mkT_data]
set_option maxRecDepth 100000 in
theorem rlist_any (w : World) (r : Nat) (F : Nat → Prop) (s : St) (h : IsR w r F s) :
    Calls Try.prog 51 #[.pointer (some ⟨r, 0, none⟩)] w fun e w' => ∃ o c m, e = .returned (.tuple #[.slice o m c, .int .i64 (listE (tick s))]) ∧ Hid (m = (listN (tick s)).length) ∧ Own TE w' o c ((listN (tick s)).map mkT) ∧ New w o ∧ IsR w' r F (tick s) ∧ Keeps F w w' := by
  obtain ⟨t, ht⟩ : ∃ t, t = tick s := ⟨_, rfl⟩
  rw [← ht]
  have HT : Hid (t = tick s) := ht
  clear ht
  go_enter Try.func51, Try.ntmps51
  go_wp2_with fail
  refine (rcounted_any w r F s h).mono ?_
  rw [← HT.out]
  rintro e w1 ⟨rfl, h1, HK⟩
  cases ho : t.off with
  | true =>
    have e1 : listN t = [] := by simp [listN, ho]
    have e2 : listE t = 62 := by simp [listE, ho]
    go_wp2
    go_ret2
    rw [e1, e2]
    exact ⟨_, _, _, rfl, rfl, own_nil _, new_none _, h1, HK⟩
  | false =>
    have h1' := h1
    obtain ⟨oF, cF, fs, hd⟩ := h1
    have e1 : listN t = names t.fs := by simp [listN, ho]
    have e2 : listE t = 0 := by simp [listE, ho]
    obtain ⟨N, hN⟩ : ∃ N, N = fs.length := ⟨_, rfl⟩
    have HE : Hid (listE t = 0 ∧ (listN t).map mkT = fs.map (·.nm) ∧ (listN t).length = N) := ⟨e2, by rw [e1, hd.names], by rw [e1, hN]; simp [names, hd.len]⟩
    have c0 : w1.cell? ⟨r, 0, none⟩ = some (.slice oF N cF) := by rw [hN]; exact cell_of_blk hd.blk 0
    have h16 : N ≤ 16 := by have := hd.ok.len; have := hd.len; omega
    have HD : Hid (RD w1 r F t oF cF fs) := hd
    have HN : Hid (N = fs.length) := hN
    have HI : Hid (IsR w1 r F t) := h1'
    clear hd hN e1 e2 h1'
    go_wp2_with fail
    go_loopw [4, 5] (fun l i wr => ∃ (k : Nat) (o : Option Addr) (c : Nat), k ≤ N ∧ i = .int .i64 k ∧ l = .slice o k c ∧ Hid (Own TE wr o c ((fs.map (·.nm)).take k) ∧ New w1 o ∧ Keeps no w1 wr)) (fun _ i _ => N - (intOf i).toNat)
    case atStart => exact ⟨0, none, 0, by omega, rfl, rfl, ⟨own_nil _, new_none _, Keeps.refl _ _⟩⟩
    case round =>
      obtain ⟨k, o, c, hk, rfl, rfl, HO⟩ := hrel
      have c1 := HO.out.2.2.cellN c0
      by_cases hlt : k < N
      · have hkf : k < fs.length := by have := HN.out; omega
        obtain ⟨g, hg, d0, _, _, _⟩ := ownF_at (HD.out.own.keepsN HO.out.2.2) hkf
        rw [hg] at c1
        obtain ⟨x, hx⟩ : ∃ x, x = (fs.getD k rf0).nm := ⟨_, rfl⟩
        rw [← hx] at d0
        have HX : Hid ((fs.map (·.nm)).take (k + 1) = (fs.map (·.nm)).take k ++ [x]) := (show _ = _ by
          rw [take_succ_getD _ k e0 (by simpa using hkf), hx]
          simp [List.getD_eq_getElem?_getD, hkf])
        have HLN : Hid (k = ((fs.map (·.nm)).take k).length) := (show _ = _ by simp; omega)
        clear hx hkf hg
        go_wp2_with (at_builtin; refine wpList_app okT rfl _ _ rfl o k c ((fs.map (·.nm)).take k) rfl HLN.out (HO.out.1.keepsN (keeps_alloc wr (.cells #[.string x] 9))) (some ⟨wr.heap.size, 0, none⟩) 1 1 [x] rfl rfl (fun e => by cases e) (lit_row (E := TE) wr x #[.string x] 9 _ rfl) (by rw [← HLN.out]; simp [TE]; omega) (by rw [← HLN.out]; simp; omega) ?_; intro o5 c5 w5 ho5 hap5)
        go_roundw
        case rel =>
          have hn := hap5.new (w0 := w1) HO.out.2.1 (HO.out.2.2.alloc _)
          exact ⟨k + 1, o5, c5, by omega, by go_num, rfl, ⟨by rw [HX.out]; exact ho5, hn.1, hn.2⟩⟩
        case measure => simp [intOf]; omega
      · have hkn : k = N := by omega
        subst k
        go_wp2_with fail
        go_ret2
        have := HO.out.1
        rw [List.take_of_length_le (by simp; have := HN.out; omega)] at this
        rw [HE.out.1, HE.out.2.1, HE.out.2.2]
        exact ⟨_, _, _, rfl, rfl, this, HO.out.2.1.of_le HK.size, HI.out.keepsN HO.out.2.2, HK.trans HO.out.2.2.of_no⟩

/-! ### Append -/
theorem step_apO {w : World} {ops : Array Oper} {o : Oper} {a : Act} {K : Act → World → Prop} {Q : Exit → Act → World → Prop} {Ep : Prop} (hgd : o.guard = none) (s x : Operand)
    (ho : o.op = .call { callee := .builtin .append, args := #[s, x], argTypes := #[22, 22] })
    (oa : Option Addr) (n c : Nat) (xs : List UInt8) (hs : a.eval s = .slice oa n c) (hn : n = xs.length) (hown : Ow w oa c xs)
    (ox : Option Addr) (m d : Nat) (news : List UInt8) (hx : a.eval x = .slice ox m d) (hm : m = news.length) (hd : ox = none → d = 0) (hrow : Row BE w ox news)
    (hb : xs.length + news.length ≤ 140737488355328)
    (h : ∀ o' c' w', Ow w' o' c' (xs ++ news) → Ap w oa o' w' → K (a.put o.dst (.slice o' (n + m) c')) w') :
    if Region.wanted o (yielded ops a.tmps) = true then Oper.wp Try.prog o a w K Q else Ep := by
  have hw : Region.wanted o (yielded ops a.tmps) = true := by simp [Region.wanted, hgd]
  rw [if_pos hw]
  subst hn hm
  obtain ⟨o', c', w', hr, h1, h2⟩ := run_apO w o.type oa c xs hown ox d news hd hrow hb
  unfold Oper.wp execOp
  simp only [ho, resolve, invoke, builtin, Sem.run_bind, Sem.run_pure, Result.andThen_ok, List.map_toArray, List.map_cons, List.map_nil, hs, hx, hr]
  exact h o' c' w' h1 h2
/-- what an append at a file leaves -/
theorem rapp_end {w w5 : World} {r : Nat} {F : Nat → Prop} {t : St} {g cF : Nat} {fs : List RF} {j : Nat} {b : List UInt8} {o5 : Option Addr} {c5 nf nb : Nat} (hd : RD w r F t (some ⟨g, 0, none⟩) cF fs) (hjf : j < fs.length) (hnf : nf = (fs.getD j rf0).bs.length) (hnb : nb = b.length) (ho : Ow w5 o5 c5 ((fs.getD j rf0).bs ++ b)) (hap : Ap w.drew (fs.getD j rf0).o o5 w5)
    (hok : Ok { t with fs := put (fs.getD j rf0).nm.data.toList ⟨(fs.getD j rf0).bs ++ b, (fs.getD j rf0).sy⟩ t.fs }) :
    w5.cell? ⟨g, j * 3 + 1, none⟩ = some (.slice (fs.getD j rf0).o nf (fs.getD j rf0).c) ∧ w5.frozen? ⟨g, j * 3 + 1, none⟩ = false ∧ w5.cell? ⟨r, 0, none⟩ = some (.slice (some ⟨g, 0, none⟩) fs.length cF) ∧
    ∀ w6, w6 = w5.setCell ⟨g, j * 3 + 1, none⟩ (.slice o5 (nf + nb) c5) → IsR w6 r (grow F w w6) { t with fs := put (fs.getD j rf0).nm.data.toList ⟨(fs.getD j rf0).bs ++ b, (fs.getD j rf0).sy⟩ t.fs } ∧ Keeps F w w6 := by
  have hmem := getD_mem fs j rf0 hjf
  have hkk : Keeps (inO (fs.getD j rf0).o) w w5 := (Keeps.refl _ w).drew.trans hap.keeps
  have hg : ∀ k, inO (some ⟨g, 0, none⟩) k → ¬ inO (fs.getD j rf0).o k := fun k h1 h2 => hd.f_o hmem k h2 h1
  have hO5 : Own FE w5 (some ⟨g, 0, none⟩) cF fs := hd.own.keeps hkk hg
  have hb5 := hkk.at hd.blk (hd.f_r hmem)
  obtain ⟨_, e', _, k1, _, fz⟩ := ownF_at hO5 hjf
  cases e'
  refine ⟨by rw [hnf]; exact k1, fz _, cell_of_blk hb5 0, ?_⟩
  rintro w6 rfl
  have hset := keeps_set w5 g (j * 3 + 1) (.slice o5 (nf + nb) c5)
  have hs1 := own_setF hO5 hjf (i := 1) (by omega) (.slice o5 (nf + nb) c5) ⟨(fs.getD j rf0).nm, o5, c5, (fs.getD j rf0).bs ++ b, (fs.getD j rf0).sy⟩ (by rw [hnf, hnb]; simp [RF.cells])
  have hk6 : Keeps (fun k => k = g ∨ inO (fs.getD j rf0).o k) w (w5.setCell ⟨g, j * 3 + 1, none⟩ (.slice o5 (nf + nb) c5)) := (hkk.mono fun k hk => .inr hk).trans (hset.mono fun k e => .inl e)
  have hin : ∀ k, inO o5 k → inO (fs.getD j rf0).o k ∨ w.heap.size ≤ k := hap.in
  have hg5 : ¬ inO o5 g := fun h1 => by
    obtain ⟨cur, hc⟩ := hO5.tag g ⟨_, rfl, rfl⟩
    exact ho.ne hc (by decide) h1
  refine ⟨⟨some ⟨g, 0, none⟩, cF, _, hd.upd hjf (f' := ⟨(fs.getD j rf0).nm, o5, c5, (fs.getD j rf0).bs ++ b, (fs.getD j rf0).sy⟩) rfl hs1 hk6 (ho.keeps hset (fun k h1 e => by subst e; exact hg5 h1)) hin (fun k hk => .inl hk) (fun k hk => ?_) (fun k hk => ?_) hok⟩, hk6.mono fun k hk => ?_⟩
  · rcases hin k hk with h1 | h1
    · exact .inl (hd.ff _ hmem k h1)
    · exact .inr ⟨h1, Nat.lt_of_lt_of_le (ho.lt k hk) hset.size⟩
  · rcases hk with h1 | h1
    · exact Nat.lt_of_lt_of_le (hd.lt k h1) hk6.size
    · exact h1.2
  · rcases hk with rfl | h1
    · exact hd.fo _ ⟨_, rfl, rfl⟩
    · exact hd.ff _ hmem k h1

end Go.Proofs.Ytgobakfffobpkaa
