/- Append on a disk and on the document's. -/
import Derived.Test.YtgobakfffobpkaaQ2
namespace Go.Proofs.Ytgobakfffobpkaa
open Go.RowKit Dk
set_option linter.unusedVariables false
set_option linter.unusedSimpArgs false
theorem sl_far {F G : Nat → Prop} {w w' : World} {o : Option Addr} {c : Nat} {bs : List UInt8} (h : Sl BE w o c bs) (hf : ∀ k, inO o k → 0 < c → ¬ F k ∧ ¬ G k) (hk : Keeps (fun k => F k ∨ G k) w w') : Sl BE w' o c bs := by
  by_cases h0 : c = 0
  · have : bs = [] := by have := h.cap; cases bs with | nil => rfl | cons _ _ => simp at this; omega
    subst this
    exact ⟨.inl rfl, h.cap, h.nil⟩
  · exact h.keeps hk (fun k h1 h2 => by have := hf k h1 (by omega); rcases h2 with h2 | h2; exact this.1 h2; exact this.2 h2)
theorem wpList_appG {α : Type} {E : El α} (hE : E.Ok) {w : World} {ops : Array Oper} {rest : List Oper} {o : Oper} {a : Act} {Q : Exit → Act → World → Prop} (hgd : Region.wanted o (yielded ops a.tmps) = true) (s x : Operand)
    (ho : o.op = .call { callee := .builtin .append, args := #[s, x], argTypes := #[E.t, E.t] })
    (oa : Option Addr) (n c : Nat) (xs : List α) (hs : a.eval s = .slice oa n c) (hn : n = xs.length) (hown : Own E w oa c xs)
    (ox : Option Addr) (m d : Nat) (news : List α) (hx : a.eval x = .slice ox m d) (hm : m = news.length) (hd : ox = none → d = 0) (hrow : Row E w ox news)
    (hb : (xs.length + news.length) * E.nb ≤ 140737488355328) (hb2 : xs.length + news.length ≤ 140737488355328)
    (h : ∀ o' c' w', Own E w' o' c' (xs ++ news) → Ap w oa o' w' → wpList Try.prog ops Q rest (a.put o.dst (.slice o' (n + m) c')) w') : wpList Try.prog ops Q (o :: rest) a w := by
  subst hn hm
  obtain ⟨o', c', w', hr, h1, h2⟩ := run_app hE w o.type oa c xs hown ox d news hd hrow hb hb2
  refine wpList_step fun K hK => ?_
  rw [if_pos hgd]
  unfold Oper.wp execOp
  simp only [ho, resolve, invoke, builtin, Sem.run_bind, Sem.run_pure, Result.andThen_ok, List.map_toArray, List.map_cons, List.map_nil, hs, hx, hr]
  exact hK _ _ (h o' c' w' h1 h2)
theorem Pair.other {F0 G0 F G S : Nat → Prop} {w0 w w' : World} {p r : Nat} {s t : St} (h : Pair F0 G0 w0 w p s r t F G) (hk : Keeps S w w') (hF : ∀ k, F k → ¬ S k) (hG : ∀ k, G k → ¬ S k) (hS : ∀ k, S k → w0.heap.size ≤ k) : Pair F0 G0 w0 w' p s r t F G :=
  ⟨h.a.keeps hk hF, h.b.keeps hk hG, h.ap, h.nf, h.ng, h.kept.then hk (fun k hk1 => .inr (hS k hk1))⟩
set_option maxRecDepth 100000 in
set_option maxHeartbeats 0 in
theorem plays_1 (w : World) (p r : Nat) (F G : Nat → Prop) (s : St) (o : OpV) (h : IsD w p F s) (hr : IsR w r G s) (ap : ∀ k, F k → ¬ G k) (ho : o.ok w) (hof : ∀ k, inO o.ob k → 0 < o.cb → ¬ F k ∧ ¬ G k) (M : Nat) (hR : Room M s) (hM : M ≤ 70368744177664) (hk : o.kind = 1) :
    Calls Try.prog 33 #[.pointer (some ⟨p, 0, none⟩), .pointer (some ⟨r, 0, none⟩), .agg o.cells] w (PlaysTo F G w p r s o) := by
  have he := doesOn_1 (s := s) hk
  obtain ⟨kind, who, nm, tn, ob, cb, bs, N, K⟩ := o
  simp only at hk
  subst hk
  obtain ⟨nb, hnb⟩ : ∃ nb, nb = bs.length := ⟨_, rfl⟩
  have HNB : Hid (nb = bs.length) := hnb
  have HO : Hid (OpV.ok ⟨(1), who, nm, tn, ob, cb, bs, N, K⟩ w) := ho
  have HR : Hid (Room M s) := hR
  have HE := he
  simp only [OpV.cells]
  rw [← hnb]
  obtain ⟨W, hW⟩ : ∃ W, W = w.alloc (.cells #[.int .i64 (1), .int .i64 who, .string nm, .string tn, .slice ob nb cb, .int .i64 N, .int .i64 K] 45) := ⟨_, rfl⟩
  have HA : Hid (Keeps no w W) := (show Keeps no w W by rw [hW]; exact keeps_alloc w _)
  have hbW : W.heap[w.heap.size]? = some (.cells #[.int .i64 (1), .int .i64 who, .string nm, .string tn, .slice ob nb cb, .int .i64 N, .int .i64 K] 45 (0, 0)) := by rw [hW]; exact blk_new w _
  have HP : Hid (Pair F G W W p s r s F G) := Pair.start h hr ap HA.out
  have HF : Hid (∀ k, inO ob k → 0 < cb → ¬ F k ∧ ¬ G k) := hof
  have HB : Hid (¬ F w.heap.size ∧ ¬ G w.heap.size) := ⟨fun h1 => by have := h.lt _ h1; omega, fun h1 => by have := hr.lt _ h1; omega⟩
  obtain ⟨B, hB⟩ : ∃ B, B = w.heap.size := ⟨_, rfl⟩
  rw [← hB] at hbW HB
  have q0 : W.cell? ⟨B, 0, none⟩ = some (.int .i64 (1)) := cell_of_blk hbW 0
  have q2 : W.cell? ⟨B, 2, none⟩ = some (.string nm) := cell_of_blk hbW 2
  have q3 : W.cell? ⟨B, 3, none⟩ = some (.string tn) := cell_of_blk hbW 3
  have q4 : W.cell? ⟨B, 4, none⟩ = some (.slice ob nb cb) := cell_of_blk hbW 4
  have q5 : W.cell? ⟨B, 5, none⟩ = some (.int .i64 N) := cell_of_blk hbW 5
  have q6 : W.cell? ⟨B, 6, none⟩ = some (.int .i64 K) := cell_of_blk hbW 6
  clear hnb ho hR h hr he ap hof hbW
  go_enter Try.func33, Try.ntmps33
  go_wp2_with fail
  rw [← hW, ← hB]
  clear hW hB
  refine (own_any W ob nb cb bs HNB.out (HO.out.sl.keepsN HA.out) (by have := HO.out.len; simp only at this; omega)).mono ?_
  rintro e w2 ⟨v, rfl, o2, n2, c2, rfl, hn2, ho2, hw2, hk2⟩
  have e2 : n2 = nb := hn2.out.trans HNB.out.symm
  subst n2
  go_wp2_with (at_builtin; refine wpList_app okB rfl _ _ rfl o2 nb c2 bs rfl HNB.out (ho2.keepsN (keeps_alloc w2 (.cells #[.int .u8 165, .int .u8 166] 5))) (some ⟨w2.heap.size, 0, none⟩) 2 2 [165, 166] rfl rfl (fun e => by cases e) (lit_rows w2 [165, 166] #[.int .u8 165, .int .u8 166] 5 _ rfl) (by have := HO.out.len; simp only at this; simp [BE]; omega) (by have := HO.out.len; simp only at this; simp; omega) ?_; intro o3 c3 w3 ho3 hap3; have hn3 := hap3.new (w0 := W) hw2 (hk2.alloc _); have D3 : Hid (Pair F G W w3 p s r s F G) := HP.out.beside hn3.2; have x2 := D3.out.cell HB.out q2; have x4 := D3.out.cell HB.out q4)
  obtain ⟨g, hg, _⟩ := ho3.store 0 (by simp) 0
  subst o3
  have HG : Hid (W.heap.size ≤ g ∧ g < w3.heap.size) := ⟨hn3.1 g ⟨_, rfl, rfl⟩, ho3.lt g ⟨_, rfl, rfl⟩⟩
  have HU3 : Hid (Own BE w3 (some ⟨g, 0, none⟩) c3 (bs ++ [165, 166])) := ho3
  have hc3 : nb + 2 ≤ c3 := by have := ho3.cap.1; have := HNB.out; simp at *; omega
  have hs0 : (0 : Int) ≤ (nb : Int) := by omega
  have hs1 : (nb : Int) ≤ (c3 : Int) := by omega
  have HGF : Hid (∀ k, inO (some ⟨g, 0, none⟩) k → ¬ F k ∧ ¬ G k) := (show ∀ k, inO (some ⟨g, 0, none⟩) k → ¬ F k ∧ ¬ G k from fun k hk => by
    rw [in_some hk]
    exact ⟨fun h1 => by have := HP.out.a.lt g h1; have := HG.out; omega, fun h1 => by have := HP.out.b.lt g h1; have := HG.out; omega⟩)
  clear ho2 hw2 hk2 ho3 hap3 hn3 q0 q3 q5 q6
  go_wp2_with fail
  go_region_held3 (fun w' => w'.cell? ⟨B, 2, none⟩ = some (.string nm) ∧ w'.cell? ⟨B, 4, none⟩ = some (.slice ob nb cb)) (go_keep) ((go_at_call 11; refine (append_any _ p F s nm (some ⟨g, 0, none⟩) nb c3 bs (D3.out.a.keepsN (Keeps.refl no w3).drew) HO.out.nm HNB.out (show Sl BE w3.drew (some ⟨g, 0, none⟩) c3 bs from ⟨by have := (HU3.out.keepsN (Keeps.refl no w3).drew).row.take okB bs.length; simpa using this, by have := HNB.out; omega, fun e => by cases e⟩) (fun k hk => (HGF.out k hk).1) (by have := HO.out.len; simp only at this; omega) (fun f hf => by have := HR.out.tick.find hf; have := HO.out.len; simp only at this; omega)).mono ?_; rintro e w5 ⟨rfl, h5, hk5⟩; have D5 : Hid (Pair F G W w5 p _ r s (grow F w3.drew w5) G) := (D3.out.beside (Keeps.refl no w3).drew).stepA h5 hk5; have HU5 : Hid (Own BE w5 (some ⟨g, 0, none⟩) c3 (bs ++ [165, 166])) := (HU3.out.keepsN (Keeps.refl no w3).drew).keeps hk5 (fun k hk => (HGF.out k hk).1); have y2 := D5.out.cell HB.out q2; have y4 := D5.out.cell HB.out q4; have HS5 : Hid (w3.heap.size ≤ w5.heap.size) := hk5.size; clear h5 hk5))
  clear x2 x4
  have HSL : Hid (Sl BE W ob cb bs) := HO.out.sl.keepsN HA.out
  go_wp2_with fail
  refine (rappend_any w5 r G s nm ob nb cb bs D5.out.b HNB.out HSL.out.nil (fun w' hk => (sl_far HSL.out HF.out (D5.out.kept.trans (hk.mono fun k h => .inr h))).row) (by have := HO.out.len; simp only at this; omega) (fun f hf => by have := HR.out.tick.find hf; have := HO.out.len; simp only at this; omega)).mono ?_
  rintro e w6 ⟨rfl, h6, hk6⟩
  have D6 : Hid (Pair F G W w6 p _ r _ (grow F w3.drew w5) (grow G w5 w6)) := D5.out.stepB h6 hk6
  have HU6 : Hid (Own BE w6 (some ⟨g, 0, none⟩) c3 (bs ++ [165, 166])) := HU5.out.keeps hk6 (fun k hk => (HGF.out k hk).2)
  have z4 := D6.out.cell HB.out q4
  clear h6 hk6 y2 y4 HU5 HU3 q2 q4
  go_wp2_with fail
  refine (own_any w6 ob nb cb bs HNB.out (sl_far HSL.out HF.out D6.out.kept) (by have := HO.out.len; simp only at this; omega)).mono ?_
  rintro e w7 ⟨v, rfl, o7, n7, c7, rfl, hn7, ho7, hw7, hk7⟩
  have e7 : n7 = nb := hn7.out.trans HNB.out.symm
  subst n7
  go_wp2_with (at_builtin; refine wpList_appG okB (by rfl) _ _ rfl o7 nb c7 bs rfl HNB.out (ho7.keepsN (keeps_alloc w7 (.cells #[.int .u8 165, .int .u8 166] 5))) (some ⟨w7.heap.size, 0, none⟩) 2 2 [165, 166] rfl rfl (fun e => by cases e) (lit_rows w7 [165, 166] #[.int .u8 165, .int .u8 166] 5 _ rfl) (by have := HO.out.len; simp only at this; simp [BE]; omega) (by have := HO.out.len; simp only at this; simp; omega) ?_; intro o8 c8 w8 ho8 hap8)
  have hn8 := hap8.new (w0 := w6) hw7 (hk7.alloc _)
  have D8 : Hid (Pair F G W w8 p _ r _ (grow F w3.drew w5) (grow G w5 w6)) := D6.out.beside hn8.2
  have HU8 : Hid (Own BE w8 (some ⟨g, 0, none⟩) c3 (bs ++ [165, 166])) := HU6.out.keepsN hn8.2
  have HO8 : Hid (Row BE w8 o8 (bs ++ [165, 166])) := ho8.row
  have HNL : Hid (nb + 2 = (bs ++ [165, 166]).length) := (show _ = _ by have := HNB.out; simp; omega)
  have HNX : Hid (∀ k, grow F w3.drew w5 k ∨ grow G w5 w6 k → k ≠ g) := (show ∀ k, grow F w3.drew w5 k ∨ grow G w5 w6 k → k ≠ g from fun k hk e => by
    have h1 := HG.out
    have h2 := HS5.out
    have h3 := HGF.out g ⟨_, rfl, rfl⟩
    subst e
    rcases hk with (h | h) | (h | h)
    · exact h3.1 h
    · have := h.1; have h4 : w3.drew.heap.size = w3.heap.size := rfl; omega
    · exact h3.2 h
    · have := h.1; omega)
  have hnb : nb ≤ 4194304 := by have := HO.out.len; simp only at this; have := HNB.out; omega
  clear ho7 hw7 hk7 ho8 hap8 hn8 HU6 D6 D5 D3 z4 HS5
  refine (same_yes w8 (some ⟨g, 0, none⟩) (nb + 2) c3 o8 (nb + 2) c8 _ HNL.out HNL.out HU8.out.row HO8.out).mono ?_
  rintro e w' ⟨rfl, e9⟩
  subst w'
  go_wp2_with fail
  go_loopw [10] (fun i wp => ∃ k : Nat, k ≤ nb + 2 ∧ i = .int .i64 k ∧ Hid (Keeps (inO (some ⟨g, 0, none⟩)) w8 wp ∧ Own BE wp (some ⟨g, 0, none⟩) c3 (List.replicate k 238 ++ (bs ++ [165, 166]).drop k))) (fun i _ => nb + 2 - (intOf i).toNat)
  case atStart => exact ⟨0, by omega, rfl, ⟨Keeps.refl _ _, by simpa using HU8.out⟩⟩
  case round =>
    rename World => wp
    obtain ⟨k, hk, rfl, HX⟩ := hrel
    by_cases hlk : k < nb + 2
    · obtain ⟨g', hg', hc, hf, hO2, hK2⟩ := HX.out.2.store k (by have := HNL.out; simp at *; omega) 238
      cases hg'
      rw [rep_step (bs ++ [165, 166]) k 238 (by have := HNL.out; omega)] at hO2
      have HO2 : Hid (Own BE (wp.setCell ⟨g, k, none⟩ (.int .u8 238)) (some ⟨g, 0, none⟩) c3 (List.replicate (k + 1) 238 ++ (bs ++ [165, 166]).drop (k + 1))) := hO2
      have HK2 : Hid (Keeps (inO (some ⟨g, 0, none⟩)) wp (wp.setCell ⟨g, k, none⟩ (.int .u8 238))) := hK2
      clear hO2 hK2
      go_wp2_with fail
      go_roundw
      case rel => exact ⟨k + 1, by omega, by go_num, ⟨HX.out.1.trans HK2.out, HO2.out⟩⟩
      case measure => simp [intOf]; omega
    · have hkn : k = nb + 2 := by omega
      have DE : Hid (Pair F G W wp p _ r _ (grow F w3.drew w5) (grow G w5 w6)) := D8.out.other HX.out.1 (fun k h1 h2 => HNX.out k (.inl h1) (in_some h2)) (fun k h1 h2 => HNX.out k (.inr h1) (in_some h2)) (fun k h1 => by rw [in_some h1]; exact HG.out.1)
      clear HX
      go_wp2_with fail
      go_ret
      exact plays_end HE HA.out DE.out (by simp)
end Go.Proofs.Ytgobakfffobpkaa
