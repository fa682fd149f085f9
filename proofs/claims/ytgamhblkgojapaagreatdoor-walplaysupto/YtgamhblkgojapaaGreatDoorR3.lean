import Derived.Test.YtgamhblkgojapaaGreatDoorR2
namespace Go.Proofs.YtgamhblkgojapaaGreatDoor
open Go.RowKit
open Pk
set_option linter.unusedVariables false
set_option linter.unusedSimpArgs false

/-- bytes as a text -/
def text (bs : List Nat) : ByteArray := ⟨(bs.map UInt8.ofNat).toArray⟩
theorem nats_text (bs : List Nat) (h : ∀ c ∈ bs, c < 256) : nats (text bs) = bs := by
  unfold nats text
  rw [List.toList_toArray, List.map_map]
  conv => rhs; rw [← List.map_id bs]
  apply List.map_congr_left
  intro c hc
  have := h c hc
  simp [UInt8.toNat_ofNat']
  omega
theorem text_nats (s : ByteArray) : text (nats s) = s := by
  unfold nats text
  rw [List.map_map]
  have : (UInt8.ofNat ∘ UInt8.toNat) = id := by funext x; simp
  rw [this, List.map_id]
theorem foldl_push (ns : List Int) : ∀ (s : ByteArray), ns.foldl (fun r n => r.push (UInt8.ofNat n.toNat)) s = ⟨s.data ++ (ns.map fun n => UInt8.ofNat n.toNat).toArray⟩ := by
  induction ns with
  | nil => intro s; simp
  | cons n ns ih =>
    intro s
    rw [List.foldl_cons, ih]
    simp [ByteArray.push]
theorem run_text (w : World) (a : Option Addr) (bs : List Nat) (n cap : Nat) (hn : n = bs.length) (hr : BRow w a bs) :
    (convert 42 9 (.slice a n cap)).run Tryz.prog w = .ok (.string (text bs)) w := by
  subst hn
  rw [run_convert_bytes_string w 42 9 5 a bs.length cap Tryz.underlying42 Tryz.underlying5 Tryz.underlying9]
  match a, hr with
  | none, hr =>
    obtain rfl : bs = [] := by rcases hr.2.2 with h | ⟨b, off, h, _⟩; exact h; cases h
    simp [Conv.bytesToString, text]
    rfl
  | some ad, hr =>
    have hload := run_loadCells_list (P := Tryz.prog) w ad (vals bs) hr.news
    have e : vals bs = (bs.map fun c => ((c : Nat) : Int)).map (Value.int .u8) := by simp [vals]
    rw [vals_length] at hload
    rw [e] at hload
    rw [run_bytesToString w ad bs.length cap _ hload, foldl_push]
    congr 2
    simp [text]

theorem drew2 (w : World) (m n : Nat) : (w.drewN m).drewN n = w.drewN (m + n) := by simp [World.drewN, Nat.add_assoc]
/-- what cutText tells -/
def CtxTo (w : World) (o : Option Addr) (bs : List Nat) (most : Int) (e : Ending) (w' : World) : Prop :=
  (∃ m, w' = w.drewN m) ∧
  ((∃ er, Hid (ctext bs most = ([], bs, er)) ∧ 0 < er ∧ er ≤ 5 ∧ e = .returned (.tuple #[.slice none 0 0, .slice none 0 0, .int .i64 (er : Nat)])) ∨
   (∃ s r o1 c1 n1 o2 c2 n2, Hid (ctext bs most = (s, r, 0)) ∧ e = .returned (.tuple #[.slice o1 n1 c1, .slice o2 n2 c2, .int .i64 0]) ∧ Hid (n1 = s.length) ∧ Hid (n2 = r.length) ∧ n2 ≤ 140737488355328 ∧ BSl w o1 c1 s ∧ BSl w o2 c2 r ∧ BSub o o1 ∧ BSub o o2))

set_option maxRecDepth 10000 in
theorem cutText_any (w : World) (o : Option Addr) (n c : Nat) (bs : List Nat) (most : Int) (hn : n = bs.length) (h : BSl w o c bs) (hlid : bs.length ≤ 140737488355328) (hm1 : -9223372036854775808 ≤ most) (hm2 : most ≤ 9223372036854775807) :
    Calls Tryz.prog 128 #[.slice o n c, .int .i64 most] w (CtxTo w o bs most) := by
  go_enter Tryz.func128, Tryz.ntmps128
  have HN : Hid (n = bs.length) := hn
  clear hn
  go_wp2_with fail
  refine (cutCount_any w o n c bs most HN.out h hlid hm1 hm2).mono ?_
  rintro e w1 ⟨⟨m, rfl⟩, ⟨er, HE, her, her5, rfl⟩ | ⟨v, o', c', n', HE, hv, rfl, hn', hn5, hsl, hsub⟩⟩
  · have her' : ¬ ((er : Nat) : Int) = 0 := by omega
    go_wp2
    go_ret3
    exact ⟨⟨m, rfl⟩, .inl ⟨er, by show _ = _; simp [ctext, HE.out]; omega, her, her5, rfl⟩⟩
  · by_cases hlt : n' < v
    · go_wp2
      go_ret3
      exact ⟨⟨m, rfl⟩, .inl ⟨4, by show _ = _; have := hn'.out; simp [ctext, HE.out]; simp at this; omega, by omega, by omega, rfl⟩⟩
    · obtain ⟨A, d, hcut, hsl1, hsub1⟩ := cut_h w o' c' (bs.drop 4) n' v v rfl hn'.out (by omega) hsl
      obtain ⟨A', d', hcut', hsl', hsub'⟩ := cut_l w o' c' (bs.drop 4) n' v v rfl hn'.out (by omega) hsl
      go_wp2
      go_quiet (fail)
      go_wp2
      go_ret3
      have := hn'.out
      rw [List.length_drop] at this
      refine ⟨⟨_, drew2 _ _ _⟩, .inr ⟨(bs.drop 4).take v, (bs.drop 4).drop v, A, d, v, A', d', n' - v, ?_, rfl, ?_, ?_, by omega, hsl1, hsl', hsub.trans hsub1, hsub.trans hsub'⟩⟩
      · show _ = _
        unfold ctext
        rw [HE.out]
        simp
        omega
      · show _ = _; rw [List.length_take, List.length_drop]; omega
      · show _ = _; rw [List.length_drop, List.length_drop]; omega

/-- a list of texts of the call's own -/
def OwnsS (w : World) (o : Option Addr) (c : Nat) (ss : List ByteArray) : Prop := w.ownsRow 0 9 1 (.slice o ss.length c) ss.length (ss.map Value.string)
theorem OwnsS.shape {w : World} {o : Option Addr} {c : Nat} {ss : List ByteArray} (h : OwnsS w o c ss) : (o = none ∧ c = 0 ∧ ss = []) ∨ ∃ g cur, o = some ⟨g, 0, none⟩ ∧ w.heap[g]? = some (.cells cur 9 (0, 0)) ∧ ss.length ≤ c ∧ c ≤ maxLen ∧ cur.size = c ∧ cur.toList.take ss.length = ss.map Value.string := by
  rcases h.2 with ⟨e, h0⟩ | ⟨g, cap, cur, e, _, h1, h2, h3, h4, h5⟩
  · injection e with e1 e2 e3
    exact .inl ⟨e1, e3, List.length_eq_zero_iff.mp h0⟩
  · injection e with e1 e2 e3
    subst e3
    exact .inr ⟨g, cur, e1, h1, h2, h3, by simpa using h4, by simpa using h5⟩
theorem OwnsS.cap {w : World} {o : Option Addr} {c : Nat} {ss : List ByteArray} (h : OwnsS w o c ss) : ss.length ≤ c ∧ (o = none → c = 0) := by
  rcases h.shape with ⟨e, h0, h1⟩ | ⟨g, cur, e, _, h1, _⟩
  · subst h1; exact ⟨by simp, fun _ => h0⟩
  · exact ⟨h1, fun h => by rw [e] at h; cases h⟩
theorem OwnsS.keeps {S : Nat → Prop} {w w' : World} {o : Option Addr} {c : Nat} {ss : List ByteArray} (h : OwnsS w o c ss) (hk : Keeps S w w') (hv : ∀ k, inO o k → ¬ S k) : OwnsS w' o c ss :=
  ownsRow_keeps h hk (fun k hh => hv k ((own_blk _ _ _ _).1 hh))
theorem OwnsS.alloc {w : World} {o : Option Addr} {c : Nat} {ss : List ByteArray} (h : OwnsS w o c ss) (x : Obj) : OwnsS (w.alloc x) o c ss := World.ownsRow.alloc h x
theorem ownsS_nil (w : World) : OwnsS w none 0 [] := World.ownsRow_nil w 0 9 1
theorem OwnsS.row {w : World} {o : Option Addr} {c : Nat} {ss : List ByteArray} (h : OwnsS w o c ss) : RowS w o ss := by
  rcases h.shape with ⟨_, _, e⟩ | ⟨g, cur, rfl, hg, hc, hm, hs, ht⟩
  · exact .inl e
  · refine .inr ⟨g, 0, rfl, fun j hj => ?_⟩
    rw [Nat.zero_add, World.ownsRow.cellAt h j (by omega)]
    simp [hj]
theorem OwnsS.lt {w : World} {o : Option Addr} {c : Nat} {ss : List ByteArray} (h : OwnsS w o c ss) : ∀ k, inO o k → k < w.heap.size := by
  rintro k ⟨x, rfl, rfl⟩
  exact (World.ownsRow.lt h x.block rfl).2
theorem ownsS_val {w : World} {v : Value} {n : Nat} {ss : List ByteArray} (h : w.ownsRow 0 9 1 v n (ss.map Value.string)) : ∃ o c, v = .slice o n c ∧ n = ss.length ∧ OwnsS w o c ss := by
  have hn : n = ss.length := by have := h.1; simp at this; omega
  rcases h.2 with ⟨e, h0⟩ | ⟨g, cap, cur, e, _⟩
  · refine ⟨none, 0, by rw [e, h0], hn, ?_⟩
    unfold OwnsS
    rw [← hn, h0]
    rw [e, h0] at h
    exact h
  · refine ⟨_, _, e, hn, ?_⟩
    unfold OwnsS
    rw [← hn, ← e]
    exact h
theorem RowS.news {w : World} {ad : Addr} {ss : List ByteArray} (h : RowS w (some ad) ss) : ∀ j u, (ss.map Value.string)[j]? = some u → w.cell? (ad.add j) = some u := by
  intro j u hj
  have hjl : j < ss.length := by
    have := (List.getElem?_eq_some_iff.mp hj).1
    simpa using this
  rcases h with h | ⟨b, off, h, hc⟩
  · rw [h] at hjl; simp at hjl
  · cases h
    have := hc j hjl
    rw [← addr_add] at this
    have e : u = .string (ss.getD j ⟨#[]⟩) := by
      simp [hjl] at hj
      simp [hjl, hj]
    rw [e]
    exact this
/-- append(l, x...) of texts onto a list of the call's own -/
theorem wpList_appL {w : World} {ops : Array Oper} {rest : List Oper} {o : Oper} {a : Act} {Q : Exit → Act → World → Prop} (hgd : o.guard = none) (s x : Operand)
    (ho : o.op = .call { callee := .builtin .append, args := #[s, x], argTypes := #[39, 39] })
    (oa : Option Addr) (n c : Nat) (ss : List ByteArray) (hs : a.eval s = .slice oa n c) (hn : n = ss.length) (hown : OwnsS w oa c ss)
    (ox : Option Addr) (m d : Nat) (news : List ByteArray) (hx : a.eval x = .slice ox m d) (hm : m = news.length) (hd : ox = none → d = 0) (hrow : RowS w ox news)
    (hb : (n + m) * 16 ≤ 140737488355328)
    (h : ∀ o' c' w', OwnsS w' o' c' (ss ++ news) → Fresh w oa o' → Keeps (inO oa) w w' → wpList Tryz.prog ops Q rest (a.put o.dst (.slice o' (n + m) c')) w') : wpList Tryz.prog ops Q (o :: rest) a w := by
  obtain ⟨i0, hi, hz0, hz1, hz2⟩ := info_parts info9
  subst hn hm
  match ox, hrow, hx with
  | none, hrow, hx =>
    obtain rfl : news = [] := by rcases hrow with h | ⟨b, off, h, _⟩; exact h; cases h
    obtain rfl : d = 0 := hd rfl
    refine wpList_append_own_none hgd s x 39 ho 0 9 i0 1 Tryz.underlying39 hi _ _ _ hs hown hx ?_
    exact h oa c w (by simpa using hown) (.inl rfl) (Keeps.refl _ _)
  | some ad, hrow, hx =>
    refine wpList_append_own_at _ hgd s x 39 ho 0 9 i0 (.string ⟨#[]⟩) 1 16 Tryz.underlying39 hi hz0 hz1 hz2 rfl (by decide) _ ss.length (ss.map Value.string) hs hown ad _ _ (news.map Value.string) hx (by simp) hrow.news (by intro u hu; simp at hu; obtain ⟨c, _, rfl⟩ := hu; rfl) (by unfold maxLen; omega) (by omega) (Nat.zero_le _) ?_
    intro v' w' hown' hg _ hat
    rw [← List.map_append] at hown'
    obtain ⟨o', c', rfl, hlen, hown''⟩ := ownsS_val hown'
    refine h o' c' w' hown'' ?_ ((Keeps.refl _ _).grown hg (fun k hk => .inl ((own_blk _ _ _ _).1 hk)))
    rcases hown''.shape with ⟨e, _⟩ | ⟨g, cur, e, _⟩ <;> rcases hown.shape with ⟨e', _⟩ | ⟨g', cur', e', _⟩ <;> subst e <;> subst e'
    · exact .inl rfl
    · rcases hat with hat | hat <;> cases hat
    · rcases hat with hat | hat
      · cases hat
      · simp [Value.ownBlock] at hat; exact .inr ⟨g, rfl, by omega⟩
    · rcases hat with hat | hat
      · simp [Value.ownBlock] at hat; rw [hat]; exact .inl rfl
      · simp [Value.ownBlock] at hat; exact .inr ⟨g, rfl, by omega⟩

theorem ctextsN_succ (n : Nat) (b : List Nat) (most : Int) : ctextsN (n + 1) b most = match ctext b most with
    | (s, r, e) => if e ≠ 0 then ([], b, e) else
      match ctextsN n r most with
      | (l, r', e') => if e' ≠ 0 then ([], b, e') else (s :: l, r', 0) := rfl
theorem ctextsN_add (most : Int) (m : Nat) : ∀ (k : Nat) (b : List Nat) (ls : List (List Nat)) (r : List Nat), ctextsN k b most = (ls, r, 0) →
    ctextsN (k + m) b most = match ctextsN m r most with | (l', r', e') => if e' ≠ 0 then ([], b, e') else (ls ++ l', r', 0) := by
  intro k
  induction k with
  | zero =>
    intro b ls r h
    simp [ctextsN] at h
    obtain ⟨rfl, rfl⟩ := h
    rw [Nat.zero_add]
    have : ∀ (m : Nat) (b : List Nat), (ctextsN m b most).2.2 ≠ 0 → (ctextsN m b most) = ([], b, (ctextsN m b most).2.2) := by
      intro m b hne
      cases m with
      | zero => simp [ctextsN] at hne
      | succ m =>
        unfold ctextsN at hne ⊢
        generalize ctext b most = q at hne ⊢
        obtain ⟨s, r, e⟩ := q
        dsimp only at hne ⊢
        split
        · rfl
        · rename_i h1
          rw [if_neg h1] at hne
          generalize ctextsN m r most = q' at hne ⊢
          obtain ⟨l, r', e'⟩ := q'
          dsimp only at hne ⊢
          split
          · rfl
          · rename_i h2
            rw [if_neg h2] at hne
            simp at hne
    have h2 := this m b
    generalize ctextsN m b most = q at h2 ⊢
    obtain ⟨l, r', e'⟩ := q
    dsimp only at h2 ⊢
    by_cases he : e' = 0
    · subst he; simp
    · simp [he]; simpa using h2 he
  | succ k ih =>
    intro b ls r h
    rw [show k + 1 + m = (k + m) + 1 by omega]
    rw [ctextsN_succ] at h ⊢
    generalize ctext b most = q at h ⊢
    obtain ⟨s, r1, e1⟩ := q
    dsimp only at h ⊢
    by_cases he : e1 = 0
    · subst he
      simp only [ne_eq, not_true_eq_false, if_false] at h ⊢
      generalize hq : ctextsN k r1 most = q at h
      obtain ⟨l, r2, e2⟩ := q
      dsimp only at h
      by_cases he2 : e2 = 0
      · subst he2
        simp at h
        obtain ⟨rfl, rfl⟩ := h
        rw [ih _ _ _ hq]
        generalize ctextsN m r2 most = q3
        obtain ⟨l', r', e'⟩ := q3
        dsimp only
        by_cases he3 : e' = 0
        · subst he3; simp
        · simp [he3]
      · simp [he2] at h
    · simp [he] at h

theorem ctextsN_snoc (most : Int) (k : Nat) (b : List Nat) (ls : List (List Nat)) (r s r' : List Nat) (h : ctextsN k b most = (ls, r, 0)) (h1 : ctext r most = (s, r', 0)) : ctextsN (k + 1) b most = (ls ++ [s], r', 0) := by
  rw [ctextsN_add most 1 k b ls r h]
  simp [ctextsN, h1]
theorem ctextsN_err (most : Int) (k n : Nat) (hkn : k < n) (b : List Nat) (ls : List (List Nat)) (r : List Nat) (e : Nat) (he : e ≠ 0) (h : ctextsN k b most = (ls, r, 0)) (h1 : ctext r most = ([], r, e)) : ctextsN n b most = ([], b, e) := by
  obtain ⟨m, rfl⟩ : ∃ m, n = k + (m + 1) := ⟨n - k - 1, by omega⟩
  rw [ctextsN_add most (m + 1) k b ls r h]
  simp [ctextsN, h1, he]

/-- what cutTexts tells -/
def TxsTo (w : World) (o : Option Addr) (bs : List Nat) (count most : Int) (e : Ending) (w' : World) : Prop :=
  Keeps (fun _ => False) w w' ∧
  ((∃ er, Hid (ctexts bs count most = ([], bs, er)) ∧ 0 < er ∧ er ≤ 5 ∧ e = .returned (.tuple #[.slice none 0 0, .slice none 0 0, .int .i64 (er : Nat)])) ∨
   (∃ ls r o1 c1 n1 o2 c2 n2, Hid (ctexts bs count most = (ls, r, 0)) ∧ e = .returned (.tuple #[.slice o1 n1 c1, .slice o2 n2 c2, .int .i64 0]) ∧ Hid (n1 = ls.length) ∧ Hid (n2 = r.length) ∧ n1 ≤ 4294967296 ∧ n2 ≤ 140737488355328 ∧ OwnsS w' o1 c1 (ls.map text) ∧ (∀ k, inO o1 k → w.heap.size ≤ k) ∧ BSl w' o2 c2 r ∧ BSub o o2 ∧ Hid (∀ s ∈ ls, ∀ c ∈ s, c < 256)))

set_option maxRecDepth 10000 in
set_option maxHeartbeats 400000 in
theorem cutTexts_any (w : World) (o : Option Addr) (n c : Nat) (bs : List Nat) (count most : Int) (hn : n = bs.length) (h : BSl w o c bs) (hlid : bs.length ≤ 140737488355328) (hlive : ∀ k, inO o k → k < w.heap.size) (hc1 : -9223372036854775808 ≤ count) (hc2 : count ≤ 9223372036854775807) (hm1 : -9223372036854775808 ≤ most) (hm2 : most ≤ 9223372036854775807) :
    Calls Tryz.prog 113 #[.slice o n c, .int .i64 count, .int .i64 most] w (TxsTo w o bs count most) := by
  have HN : Hid (n = bs.length) := hn
  clear hn
  go_enter Tryz.func113, Tryz.ntmps113
  go_wp2_with fail
  refine (cutCount_any w o n c bs count HN.out h hlid hc1 hc2).mono ?_
  rintro e w1 ⟨⟨m, rfl⟩, ⟨er, HE, her, her5, rfl⟩ | ⟨v, o', c', n', HE, hv, rfl, hn', hn5, hsl, hsub⟩⟩
  · have her' : ¬ ((er : Nat) : Int) = 0 := by omega
    go_wp2
    go_ret3
    exact ⟨keeps_drewN _ _ _, .inl ⟨er, by show _ = _; simp [ctexts, HE.out]; omega, her, her5, rfl⟩⟩
  · go_wp2_with fail
    go_loopw [10, 12, 27] (fun r l i wr => ∃ (k : Nat) (ls : List (List Nat)) (rs : List Nat) (oR : Option Addr) (cR nR : Nat) (oL : Option Addr) (cL : Nat), k ≤ v ∧ i = .int .i64 k ∧ r = .slice oR nR cR ∧ l = .slice oL k cL ∧ k = ls.length ∧ nR = rs.length ∧ nR ≤ 140737488355328 ∧ ctextsN k (bs.drop 4) most = (ls, rs, 0) ∧ Keeps (fun _ => False) w wr ∧ BSl wr oR cR rs ∧ BSub o oR ∧ OwnsS wr oL cL (ls.map text) ∧ (∀ x, inO oL x → w.heap.size ≤ x) ∧ (∀ s ∈ ls, ∀ c ∈ s, c < 256)) (fun _ _ i _ => v - (intOf i).toNat)
    case atStart => exact ⟨0, [], bs.drop 4, o', c', n', none, 0, by omega, rfl, rfl, rfl, rfl, hn'.out, hn5, rfl, keeps_drewN _ _ _, hsl.drewN m, hsub, ownsS_nil _, fun x ⟨y, h, _⟩ => (by cases h), fun s hs => (by cases hs)⟩
    case round =>
      obtain ⟨k, ls, rs, oR, cR, nR, oL, cL, hk, rfl, rfl, rfl, hkl, hnr, hnr5, hct, hK, hslr, hsubr, hown, hnew, hby⟩ := hrel
      have HKL : Hid (k = ls.length) := hkl
      have HNR : Hid (nR = rs.length) := hnr
      have HCT : Hid (ctextsN k (bs.drop 4) most = (ls, rs, 0)) := hct
      have HBY : Hid (∀ s ∈ ls, ∀ c ∈ s, c < 256) := hby
      clear hkl hnr hct hby
      by_cases h2 : k < v
      · go_wp2_with fail
        refine (cutText_any wr oR nR cR rs most HNR.out hslr (by have := HNR.out; omega) hm1 hm2).mono ?_
        rintro e w2 ⟨⟨m2, rfl⟩, ⟨er, HE2, her, her5, rfl⟩ | ⟨s, r, o1, c1, n1, o2, c2, n2, HE2, rfl, hn1, hn2, hn25, hsl1, hsl2, hsub1, hsub2⟩⟩
        · have her' : ¬ ((er : Nat) : Int) = 0 := by omega
          go_wp2
          go_ret3
          refine ⟨hK.trans (keeps_drewN _ _ _), .inl ⟨er, ?_, her, her5, rfl⟩⟩
          show _ = _
          unfold ctexts
          rw [HE.out]
          simp [ctextsN_err most k v h2 _ _ _ er (by omega) HCT.out HE2.out]
          omega
        · have hcv : ∀ q, (convert 42 9 (.slice o1 n1 c1)).run Tryz.prog ((wr.drewN m2).drewN q) = .ok (.string (text s)) ((wr.drewN m2).drewN q) := fun q => run_text _ o1 s n1 c1 hn1.out ((hsl1.drewN m2).drewN q).row
          have hcv0 : (convert 42 9 (.slice o1 n1 c1)).run Tryz.prog (wr.drewN m2) = .ok (.string (text s)) (wr.drewN m2) := run_text _ o1 s n1 c1 hn1.out (hsl1.drewN m2).row
          have HB : Hid (∀ c ∈ s, c < 256) := hsl1.row.1
          have hrs : RowS ((wr.drewN m2).alloc (.cells #[.string (text s)] 9)) (some ⟨wr.heap.size, 0, none⟩) [text s] := by
            refine .inr ⟨_, _, rfl, fun j hj => ?_⟩
            show World.cell? _ ⟨(wr.drewN m2).heap.size, 0 + j, none⟩ = _
            rw [cell_of_blk (blk_new (wr.drewN m2) _)]
            match j, hj with
            | 0, _ => rfl
          have hown2 : OwnsS ((wr.drewN m2).alloc (.cells #[.string (text s)] 9)) oL cL (ls.map text) := (hown.keeps (keeps_drewN (fun _ => False) _ m2) (fun _ _ h => h)).alloc _
          go_wp2_with (at_builtin; go_must (refine wpList_appL rfl _ _ rfl oL _ cL (ls.map text) (by rfl) (by rw [List.length_map]; exact HKL.out) hown2 (some ⟨wr.heap.size, 0, none⟩) 1 1 [text s] (by rfl) rfl (by simp) hrs (by omega) ?_); rintro o3 c3 w3 hown3 hfr3 hk3)
          go_roundw
          case rel =>
            have hK3 : Keeps (fun _ => False) w w3 := ((hK.trans (keeps_drewN _ _ m2)).alloc _).then hk3 (fun i hi => .inr (hnew i hi))
            have hk3' : Keeps (fun k => w.heap.size ≤ k ∧ inO oL k) wr w3 := (((keeps_drewN _ wr m2)).alloc _).then hk3 (fun i hi => .inl ⟨hnew i hi, hi⟩)
            refine ⟨k + 1, ls ++ [s], r, o2, c2, n2, o3, c3, by omega, by go_num, rfl, rfl, by rw [List.length_append, ← HKL.out]; rfl, hn2.out, hn25, ctextsN_snoc most k _ ls rs s r HCT.out HE2.out, hK3, ?_, hsubr.trans hsub2, ?_, ?_, ?_⟩
            · refine hsl2.keeps hk3' (fun x hx hh => ?_)
              have := hlive x ((hsubr.trans hsub2).in x hx)
              omega
            · rw [List.map_append]; exact hown3
            · intro x hx
              rcases hfr3.in x hx with h' | h'
              · exact hnew x h'
              · have := hK.size; simp at h'; omega
            · intro s' hs'
              rcases List.mem_append.mp hs' with h' | h'
              · exact HBY.out s' h'
              · simp at h'; rw [h']; exact HB.out
          case measure => simp [intOf]; omega
      · go_wp2
        go_ret3
        obtain rfl : k = v := by omega
        refine ⟨hK, .inr ⟨ls, rs, oL, cL, k, oR, cR, nR, ?_, rfl, HKL.out, HNR.out, by omega, hnr5, hown, hnew, hslr, hsubr, HBY.out⟩⟩
        show _ = _
        unfold ctexts
        rw [HE.out]
        simp [HCT.out]
end Go.Proofs.YtgamhblkgojapaaGreatDoor
