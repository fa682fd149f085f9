import Derived.Test.YtdemoghlibnooaaGreatDoorZS
import Derived.Test.YtdemoghlibnooaaGreatDoorFz
import Derived.Test.YtdemoghlibnooaaGreatDoorG3
import Derived.Test.YtdemoghlibnooaaGreatDoorZA
namespace Go.Proofs.YtdemoghlibnooaaGreatDoor
open Go.RowKit Go.Maps Go.Sort Orl Pk
set_option linter.unusedVariables false
set_option linter.unusedSimpArgs false
theorem ownb_any (w : World) (a : Option Addr) (n c : Nat) (b : List UInt8) (hn : n = b.length) (hb : b.length ≤ 140737488355328) (hs : Sl BU w a c b) :
    Calls Tryz.prog 27 #[.slice a n c] w fun e w' => ∃ o m d, e = .returned (.slice o m d) ∧ Hid (m = b.length ∧ Own BU w' o d b ∧ New w o ∧ Keeps no w w') := by
  have HN : Hid (n = b.length ∧ b.length ≤ 140737488355328) := ⟨hn, hb⟩
  have HS : Hid (Sl BU w a c b) := hs
  clear hn hb hs
  go_enter Tryz.func27, Tryz.ntmps27
  go_wp2_with (at_builtin; go_must (refine wpList_app okU rfl _ _ rfl none 0 0 [] rfl rfl (own_nil w) a n c b rfl HN.out.1 HS.out.nil HS.out.row (by have := HN.out; simp [BU]; omega) (by have := HN.out; simp; omega) ?_); intro o' c' w' ho hap)
  go_ret
  have := hap.new (w0 := w) (fun b hb => by obtain ⟨x, e, _⟩ := hb; cases e) (Keeps.refl no w)
  exact ⟨o', _, c', rfl, by simp [HN.out.1], by simpa using ho, this.1, this.2⟩
theorem sameb_eq (w : World) (oa : Option Addr) (na ca : Nat) (ob : Option Addr) (nb cb : Nat) (b : List UInt8) (hna : na = b.length) (hnb : nb = b.length) (ha : Row BU w oa b) (hb : Row BU w ob b) :
    Calls Tryz.prog 86 #[.slice oa na ca, .slice ob nb cb] w fun e w' => e = .returned (.bool true) ∧ w' = w := by
  have h1 := run_textG w oa b na ca hna ha
  have h2 := run_textG w ob b nb cb hnb hb
  have HE : Hid (((mkT b).toList == (mkT b).toList) = true) := by show _ = _; simp
  generalize mkT b = ta at h1 h2 HE
  clear hna hnb
  go_enter Tryz.func86, Tryz.ntmps86
  go_wp2
  go_ret
  exact ⟨rfl, rfl⟩
theorem sameS_eq (w : World) (oa : Option Addr) (na ca : Nat) (ob : Option Addr) (nb cb : Nat) (sa : List Tx) (hna : na = sa.length) (hnb : nb = sa.length) (hla : sa.length ≤ 100000) (ha : Sl TE w oa ca sa) (hb : Sl TE w ob cb sa) :
    Calls Tryz.prog 20 #[.slice oa na ca, .slice ob nb cb] w fun e w' => e = .returned (.bool true) ∧ Keeps no w w' := by
  have HA : Hid (na = sa.length) := hna
  have hA : (na : Int) ≤ 100000 := by omega
  have hne : na = nb := by omega
  clear hna hnb hla
  subst hne
  go_enter Tryz.func20, Tryz.ntmps20
  go_wp2_with fail
  go_loopw [5] (fun i wr => ∃ k m : Nat, k ≤ na ∧ i = .int .i64 k ∧ wr = w.drewN m) (fun i _ => na - (intOf i).toNat)
  case atStart => exact ⟨0, 0, by omega, rfl, rfl⟩
  case round =>
    obtain ⟨k, m, hk, rfl, rfl⟩ := hrel
    by_cases h2 : k < na
    · have hka : k < sa.length := by have := HA.out; omega
      obtain ⟨b1, off1, rfl, d1⟩ := ha.at hka
      obtain ⟨b2, off2, rfl, d2⟩ := hb.at hka
      obtain ⟨x, hx⟩ : ∃ x, x = sa.getD k e0 := ⟨_, rfl⟩
      rw [← hx] at d1 d2
      have hxy' : (x.toList == x.toList) = true := by simp
      clear hx hka
      go_wp2
      go_quiet (fail)
      go_wp2
      go_roundw
      case rel => exact ⟨k + 1, _, by omega, by go_num, rfl⟩
      case measure => simp [intOf]; omega
    · go_wp2
      go_ret
      exact ⟨rfl, (Keeps.refl _ _).drewN _⟩
theorem sl_ltQ {α : Type} {E : El α} (hE : E.Ok) {w : World} {o : Option Addr} {c : Nat} {xs : List α} (h : Sl E w o c xs) (hx : 0 < xs.length) : ∀ b, inO o b → b < w.heap.size := by
  rintro b ⟨x, rfl, rfl⟩
  rcases h.row with h0 | ⟨b, off, e, hc⟩
  · rw [h0] at hx; simp at hx
  · cases e
    have hl : 0 < (E.cells xs).length := by rw [cells_length hE]; exact Nat.mul_pos hx hE.pos
    exact World.block_lt_of_cell? w _ (hc 0 _ (List.getElem?_eq_getElem hl))
theorem rx_aft {B : Nat → Prop} {w w' : World} {p : Nat} {s : St} {N : Nat} {ks : List KV} {ls : List Mk} (h : Aft B w p ks ls w') (hr : Rl s ks ls) (hn : ks.length ≤ N) (hok : Ok s) : Rx (grow B w w') w' p s N ∧ Keeps B w w' := by
  obtain ⟨⟨oK, nK, cK, oL, nL, cL, h1⟩, h2⟩ := h
  have bl : ∀ b, w.heap.size ≤ b → b < w'.heap.size → grow B w w' b := fun b h3 h4 => .inr ⟨h3, h4⟩
  refine ⟨⟨oK, nK, cK, oL, nL, cL, ks, ls, ⟨h1.b, h1.k, h1.key, h1.l, h1.nk, h1.nl, h1.lk, h1.ll, ?_, fun b hb => ?_, fun x hx b hb => ?_, fun b hb => ?_⟩, hr, hn, hok⟩, h2⟩
  · rcases h1.bp with h | h
    · exact .inl h
    · exact bl _ h (lt_of_block h1.b)
  · rcases h1.bk b hb with h | h
    · exact .inl h
    · exact bl _ h (h1.k.lt b hb)
  · rcases h1.bt x hx b hb with h | h
    · exact .inl h
    · exact bl _ h ((h1.key x hx).lt b hb)
  · rcases h1.bl b hb with h | h
    · exact .inl h
    · exact bl _ h (h1.l.lt b hb)
section
variable {B : Nat → Prop} {w : World} {p : Nat} {s : St} {N : Nat}
theorem Rx.put (h : Rx B w p s N) (i : Nat) (ps : List Pr) (keys : List Tx) (ap : Option Addr) (np cp : Nat) (ak : Option Addr) (nk ck : Nat) (hi : i < 18446744073709551616) (hnp : np = ps.length) (hnk : nk = keys.length) (hsp : Sl PE w ap cp ps) (hsk : Sl TE w ak ck keys) (hok : okPut i ps keys 0 = true) (hBp : ∀ b, inO ap b → ¬ B b) (hBk : ∀ b, inO ak b → ¬ B b) (hN : N ≤ 800000000) :
    Calls Tryz.prog 32 #[.pointer (some ⟨p, 0, none⟩), .int .u64 ((i : Nat) : Int), .slice ap np cp, .slice ak nk ck, .int .i64 0] w fun e w' => (∃ b : Bool, e = .returned (.tuple #[.bool b, .int .i64 0])) ∧ Hid (Rx (grow B w w') w' p (putAll i keys 0 s (miss s i ps)) (N + ps.length) ∧ Keeps B w w') := by
  obtain ⟨oK, nK, cK, oL, nL, cL, ks, ls, h1, h2, h3, h4⟩ := h
  obtain ⟨q1, q2, q3, q4⟩ := okPut_iff.1 hok
  have hk0 := (okKeys_iff.1 q2)
  have hp0 := okPairs_iff.1 q3
  have a1 := sl_ltQ okP hsp (by have := hp0.2.1; omega)
  have a2 := sl_ltQ okT hsk (by have := hk0.1; omega)
  refine (rPut_good B w p oK nK cK oL nL cL ks ls h1 s h2 i ps keys 0 ap np cp ak nk ck hnp hnk hsp hsk (fun x hx => Nat.le_trans (hk0.2.1 x hx) (by decide)) (fun x hx => Nat.le_trans (hp0.1 x hx).1 (by decide)) hBp hBk (fun b hb => hb.elim (a1 b) (a2 b)) hok (by omega)).mono ?_
  rintro e w' ⟨he, hT⟩
  obtain ⟨ks', t1, t2, t3⟩ := hT.out
  have hm : (miss s i ps).length ≤ ps.length := List.length_filter_le _ _
  exact ⟨⟨_, he⟩, rx_aft t1 t2 (by omega) (ok_put h4 hi hok)⟩
theorem Rx.commit (h : Rx B w p s N) (i : Nat) (hi : 65536 ≤ i) (hN : N ≤ 400000000) :
    Calls Tryz.prog 31 #[.pointer (some ⟨p, 0, none⟩), .int .u64 ((i : Nat) : Int), .int .i64 0] w fun e w' => (∃ n : Int, e = .returned (.tuple #[.int .i64 n, .int .i64 0])) ∧ Hid (Rx (grow B w w') w' p (commitS s i 0) N ∧ Keeps B w w') := by
  obtain ⟨oK, nK, cK, oL, nL, cL, ks, ls, h1, h2, h3, h4⟩ := h
  have hls := ls_le h4 (ls := ls) (ks := ks) ⟨h2.is, h2.all, h2.inc, h2.la⟩
  have ht : tickB 0 = true := by decide
  refine (rCommit_good B w p oK nK cK oL nL cL ks ls h1 i 0 (by rw [ht, decide_eq_true hi]; rfl) (by omega)).mono ?_
  rintro e w' ⟨he, hT⟩
  exact ⟨⟨_, he⟩, rx_aft hT.out (h2.com h4 i (by omega) 0) (by rw [List.length_map]; exact h3) (ok_commit h4 ht)⟩
end
theorem rx_new (w : World) : Calls Tryz.prog 25 #[] w fun e w' => ∃ p, e = .returned (.pointer (some ⟨p, 0, none⟩)) ∧ Hid (Rx (fun b => w.heap.size ≤ b ∧ b < w'.heap.size) w' p St.new 0 ∧ Keeps no w w') := by
  refine (rNew_any w).mono ?_
  rintro e w' ⟨p, rfl, H⟩
  have h1 := H.out.1
  exact ⟨p, rfl, ⟨none, 0, 0, none, 0, 0, [], [], ⟨h1.b, h1.k, h1.key, h1.l, h1.nk, h1.nl, h1.lk, h1.ll, ⟨h1.bp, lt_of_block h1.b⟩, fun b hb => ⟨h1.bk b hb, h1.k.lt b hb⟩, fun x hx => (by cases hx), fun b hb => ⟨h1.bl b hb, h1.l.lt b hb⟩⟩, ⟨fun x hx => (by cases hx), fun m hm => absurd rfl hm, List.Pairwise.nil, ⟨List.Pairwise.nil, fun k i => ⟨fun hh => (by cases hh), fun hh => absurd hh.1 (fun e => hh.2 e.symm)⟩⟩⟩, Nat.le_refl _, ok_new⟩, H.out.2⟩
structure Quad2 (w0 W : World) (d r q u : Nat) (F G A B : Nat → Prop) (t t' : Dk.St) (S S' : St) (N N' : Nat) : Prop where
  par : Par w0 W d r F G t t'
  st : Stx w0 W q S N A
  rs : Rx B W u S' N'
  b0 : ∀ k, B k → w0.heap.size ≤ k ∧ k < W.heap.size
  fa : ∀ k, F k → ¬ A k
  fb : ∀ k, F k → ¬ B k
  ga : ∀ k, G k → ¬ A k
  gb : ∀ k, G k → ¬ B k
  ab : ∀ k, A k → ¬ B k
section
variable {w0 W W' : World} {d r q u : Nat} {F G A B F' G' : Nat → Prop} {t t' t1 : Dk.St} {S S' S1 : St} {N N' N1 : Nat}
theorem Quad2.kept (h : Quad2 w0 W d r q u F G A B t t' S S' N N') : Keeps no w0 W := h.par.dn.kept
theorem grown {F F' A : Nat → Prop} {W W' : World} (hF : ∀ k, F' k → F k ∨ (W.heap.size ≤ k ∧ k < W'.heap.size)) (h : ∀ k, F k → ¬ A k) (ha : ∀ k, A k → k < W.heap.size) : ∀ k, F' k → ¬ A k := fun k hk hA => by
  rcases hF k hk with h1 | h1
  · exact h k h1 hA
  · have := ha k hA; omega
theorem grown' {F F' A : Nat → Prop} {W W' : World} (hF : ∀ k, F' k → F k ∨ (W.heap.size ≤ k ∧ k < W'.heap.size)) (h : ∀ k, A k → ¬ F k) (ha : ∀ k, A k → k < W.heap.size) : ∀ k, A k → ¬ F' k := fun k hA hk => by
  rcases hF k hk with h1 | h1
  · exact h k hA h1
  · have := ha k hA; omega
theorem Quad2.keepsN (h : Quad2 w0 W d r q u F G A B t t' S S' N N') (hk : Keeps no W W') : Quad2 w0 W' d r q u F G A B t t' S S' N N' :=
  ⟨h.par.keepsN hk, h.st.keepsN hk, h.rs.keeps hk (fun _ _ => id), fun k hb => ⟨(h.b0 k hb).1, Nat.lt_of_lt_of_le (h.b0 k hb).2 hk.size⟩, h.fa, h.fb, h.ga, h.gb, h.ab⟩
theorem Quad2.opd (h : Quad2 w0 W d r q u F G A B t t' S S' N N') (hd : Dn w0 W' d F' t1) (hF : ∀ k, F' k → F k ∨ (W.heap.size ≤ k ∧ k < W'.heap.size)) (hk : Keeps F W W') : Quad2 w0 W' d r q u F' G A B t1 t' S S' N N' :=
  ⟨h.par.opd hd hF hk, h.st.other hk (fun b hb _ => h.fa b hb), h.rs.keeps hk (fun b hb hf => h.fb b hf hb), fun k hb => ⟨(h.b0 k hb).1, Nat.lt_of_lt_of_le (h.b0 k hb).2 hk.size⟩, grown hF h.fa (fun k hk => (h.st.2 k hk).2), grown hF h.fb (fun k hk => (h.b0 k hk).2), h.ga, h.gb, h.ab⟩
theorem Quad2.opr (h : Quad2 w0 W d r q u F G A B t t' S S' N N') (hi : IsRd W' r G' t1) (hG : ∀ k, G' k → G k ∨ (W.heap.size ≤ k ∧ k < W'.heap.size)) (hk : Keeps G W W') : Quad2 w0 W' d r q u F G' A B t t1 S S' N N' :=
  ⟨h.par.opr hi hG hk, h.st.other hk (fun b hb _ => h.ga b hb), h.rs.keeps hk (fun b hb hf => h.gb b hf hb), fun k hb => ⟨(h.b0 k hb).1, Nat.lt_of_lt_of_le (h.b0 k hb).2 hk.size⟩, h.fa, h.fb, grown hG h.ga (fun k hk => (h.st.2 k hk).2), grown hG h.gb (fun k hk => (h.b0 k hk).2), h.ab⟩
theorem Quad2.ops (h : Quad2 w0 W d r q u F G A B t t' S S' N N') (h' : Sto w0.heap.size W' q S1 N1 (fun b => b < W.heap.size ∧ ¬ A b)) (hk : Keeps (fun b => w0.heap.size ≤ b ∧ ¬ (b < W.heap.size ∧ ¬ A b)) W W') : Quad2 w0 W' d r q u F G (grow A W W') B t t' S1 S' N1 N' ∧ Keeps A W W' := by
  obtain ⟨a, b⟩ := h.st.own h' hk
  exact ⟨⟨⟨h.par.dn.aside b h.fa (fun k hk => (h.st.2 k hk).1), h.par.rd.keeps b h.ga, h.par.g0, h.par.fg⟩, a, h.rs.keeps b (fun k hb ha => h.ab k ha hb), fun k hb => ⟨(h.b0 k hb).1, Nat.lt_of_lt_of_le (h.b0 k hb).2 hk.size⟩, grown' (fun k hk => hk) h.fa h.par.dn.is.lt, h.fb, grown' (fun k hk => hk) h.ga h.par.rd.lt, h.gb, grown (fun k hk => hk) h.ab (fun k hk => (h.b0 k hk).2)⟩, b⟩
theorem Quad2.opu (h : Quad2 w0 W d r q u F G A B t t' S S' N N') (h' : Rx (grow B W W') W' u S1 N1) (hk : Keeps B W W') : Quad2 w0 W' d r q u F G A (grow B W W') t t' S S1 N N1 :=
  ⟨⟨h.par.dn.aside hk h.fb (fun k hk => (h.b0 k hk).1), h.par.rd.keeps hk h.gb, h.par.g0, h.par.fg⟩, h.st.other hk (fun b hb _ ha => h.ab b ha hb), h', fun k hb => by
    rcases hb with h1 | h1
    · exact ⟨(h.b0 k h1).1, Nat.lt_of_lt_of_le (h.b0 k h1).2 hk.size⟩
    · exact ⟨Nat.le_trans h.par.dn.kept.size h1.1, h1.2⟩, h.fa, grown' (fun k hk => hk) h.fb h.par.dn.is.lt, h.ga, grown' (fun k hk => hk) h.gb h.par.rd.lt, grown' (fun k hk => hk) h.ab (fun k hk => (h.st.2 k hk).2)⟩
theorem Quad2.opd1 (h : Quad2 w0 W d r q u F G A B t t' S S' N N') (hd : Dn w0 W' d F t1) (hk : Keeps F W W') : Quad2 w0 W' d r q u F G A B t1 t' S S' N N' := h.opd hd (fun k hk => .inl hk) hk
theorem Quad2.opr1 (h : Quad2 w0 W d r q u F G A B t t' S S' N N') (hi : IsRd W' r G t1) (hk : Keeps G W W') : Quad2 w0 W' d r q u F G A B t t1 S S' N N' := h.opr hi (fun k hk => .inl hk) hk
end
end Go.Proofs.YtdemoghlibnooaaGreatDoor
namespace Go.Proofs.YtdemoghlibnooaaGreatDoor
open Go.RowKit Go.Maps Go.Sort Orl Pk
set_option linter.unusedVariables false
set_option linter.unusedSimpArgs false
theorem Szl.read {t : Dk.St} {M : Nat} (h : Szl t M) (n : Dk.Nm) : (Dk.readB n t).length ≤ M := by
  unfold Dk.readB
  split
  · exact Nat.zero_le _
  · split
    · exact Nat.zero_le _
    · rename_i f hf; exact h.find hf
theorem Szl.up {t : Dk.St} {M : Nat} (h : Szl t M) : Szl (Dk.up t) M := h
theorem listed_size {t : Dk.St} (h : Dk.Ok t) : ∀ x ∈ (Dk.listN t).map mkT, x.size ≤ 32 := fun x hx => by
  obtain ⟨n, hn, rfl⟩ := List.mem_map.1 hx
  unfold Dk.listN at hn
  split at hn
  · cases hn
  · unfold Dk.names at hn
    obtain ⟨p, hp, rfl⟩ := List.mem_map.1 hn
    have := h.nm p hp
    unfold Dk.good at this
    simp only [Bool.and_eq_true, decide_eq_true_eq] at this
    show (mkT p.1).size ≤ 32
    have e : (mkT p.1).size = p.1.length := by simp [mkT, ByteArray.size]
    rw [e]
    exact this.2
theorem listed_len {t : Dk.St} (h : Dk.Ok t) : (Dk.listN t).length ≤ 16 := by
  unfold Dk.listN
  split
  · simp
  · unfold Dk.names; rw [List.length_map]; exact h.len
set_option maxRecDepth 10000 in
theorem left_any {w0 W : World} {d r : Nat} {F G : Nat → Prop} {t : Dk.St} {M : Nat} (h : Par w0 W d r F G t t) (hz : Szl t M) (hM : M ≤ 140737488355328) :
    Calls Tryz.prog 41 #[.pointer (some ⟨d, 0, none⟩), .pointer (some ⟨r, 0, none⟩)] W fun e w' => e = .returned (.bool true) ∧ Keeps no w0 w' := by
  have HM : Hid (M ≤ 140737488355328) := hM
  have HP0 : Hid (∃ t, Par w0 W d r F G t t ∧ Szl t M) := ⟨t, h, hz⟩
  clear h hz hM
  go_enter Tryz.func41, Tryz.ntmps41
  go_wp2_with fail
  go_loopw [5, 6, 7, 8, 9, 10, 11, 12, 13, 14] (fun s5 _ _ _ _ _ _ _ _ _ wr => ∃ k : Nat, k ≤ 2 ∧ s5 = .int .i64 k ∧ Hid (∃ t, Par w0 wr d r F G t t ∧ Szl t M)) (fun s5 _ _ _ _ _ _ _ _ _ _ => 2 - (intOf s5).toNat)
  case atStart => exact ⟨0, by omega, rfl, HP0⟩
  case round =>
    obtain ⟨k, hk, rfl, HP⟩ := hrel
    rename World => wq
    clear HP0
    by_cases hlt : k < 2
    case neg =>
      have hlt' : ¬ (k : Int) < 2 := by omega
      go_wp2_with fail
      go_ret
      obtain ⟨t, hP, _⟩ := HP.out
      exact ⟨rfl, hP.dn.kept⟩
    have hlt' : (k : Int) < 2 := by omega
    obtain ⟨t, hP, hZ⟩ := HP.out
    have P0 : Hid (Par w0 wq d r F G t t) := hP
    have Z0 : Hid (Szl t M) := hZ
    clear HP hP hZ
    go_wp2_with fail
    refine (dn_up P0.out.dn rfl).mono ?_
    rintro e w1 ⟨rfl, hd1, hk1⟩
    have P1 : Hid (Par w0 w1 d r F G (Dk.up t) t) := P0.out.opd1 hd1 hk1
    clear P0 hd1 hk1
    go_wp2_with fail
    refine (rup_any w1 r G t P1.out.rd).mono ?_
    rintro e w2 ⟨rfl, hd2, hk2⟩
    have P2 : Hid (Par w0 w2 d r F G (Dk.up t) (Dk.up t)) := P1.out.opr1 hd2 hk2
    have Z2 : Hid (Szl (Dk.up t) M) := Z0.out.up
    clear P1 hd2 hk2 Z0
    obtain ⟨t1, ht1⟩ : ∃ t1, t1 = Dk.up t := ⟨_, rfl⟩
    rw [← ht1] at P2 Z2
    clear ht1
    go_wp2_with fail
    refine (list_any w2 d F t1 P2.out.dn.is).mono ?_
    rintro e w3 ⟨oa, ca, ma, rfl, hma, hoa, hna, hd3, hk3⟩
    have P3 : Hid (Par w0 w3 d r F G (Dk.tick t1) t1) := P2.out.opd1 (P2.out.dn.same hd3 hk3) hk3
    have NA : Hid ((∀ b, inO oa b → ¬ F b) ∧ (∀ b, inO oa b → ¬ G b)) := ⟨fun b hb hf => by have := P2.out.dn.is.lt b hf; have := hna b hb; omega, fun b hb hf => by have := P2.out.rd.lt b hf; have := hna b hb; omega⟩
    have OK3 : Hid (Dk.Ok (Dk.tick t1)) := hd3.ok
    clear P2 hd3 hk3 hna
    go_wp2_with fail
    refine (rlist_any w3 r G t1 P3.out.rd).mono ?_
    rintro e w4 ⟨ob, cb, mb, rfl, hmb, hob, hnb, hd4, hk4⟩
    have P4 : Hid (Par w0 w4 d r F G (Dk.tick t1) (Dk.tick t1)) := P3.out.opr1 hd4 hk4
    have NB : Hid ((∀ b, inO ob b → ¬ F b) ∧ (∀ b, inO ob b → ¬ G b)) := ⟨fun b hb hf => by have := P3.out.dn.is.lt b hf; have := hnb b hb; omega, fun b hb hf => by have := P3.out.rd.lt b hf; have := hnb b hb; omega⟩
    have hoa4 := hoa.keeps hk4 NA.out.2
    have Z4 : Hid (Szl (Dk.tick t1) M) := Z2.out.tick
    obtain ⟨L, hL⟩ : ∃ L, L = (Dk.listN (Dk.tick t1)).map mkT := ⟨_, rfl⟩
    obtain ⟨E, hE⟩ : ∃ E, E = Dk.listE (Dk.tick t1) := ⟨_, rfl⟩
    have hLs : Hid (∀ x ∈ L, x.size ≤ 32) := by rw [hL]; exact listed_size OK3.out
    have hLl : L.length ≤ 16 := by rw [hL, List.length_map]; exact listed_len OK3.out
    rw [← hL] at hoa4 hob
    have ea : ma = L.length := by rw [hL, List.length_map]; exact hma.out
    have eb : mb = L.length := by rw [hL, List.length_map]; exact hmb.out
    have HL : Hid (mb = L.length ∧ Own TE w4 ob cb L) := ⟨eb, hob⟩
    have hmb16 : (mb : Int) ≤ 16 := by omega
    have hsame := sameS_eq w4 oa ma ca ob mb cb L ea eb (by omega) hoa4.sl hob.sl
    rw [← hE]
    have P4' : Hid (∃ t, Par w0 w4 d r F G t t ∧ Szl t M) := ⟨_, P4.out, Z4.out⟩
    clear P3 P4 hd4 hk4 hnb hoa hob hoa4 hma hmb hL hE ea eb NA OK3 Z2 Z4 hLl
    go_wp2_with fail
    refine hsame.mono ?_
    rintro e w5 ⟨rfl, hk5⟩
    have P5 : Hid (∃ t, Par w0 w5 d r F G t t ∧ Szl t M) := by obtain ⟨t, a, b⟩ := P4'.out; exact ⟨t, a.keepsN hk5, b⟩
    have HL5 : Hid (mb = L.length ∧ Own TE w5 ob cb L) := ⟨HL.out.1, HL.out.2.keepsN hk5⟩
    clear hsame hk5 P4' HL
    go_wp2_with fail
    go_loopw [10, 11, 12, 13, 14] (fun s10 _ _ _ _ wr => ∃ i : Nat, i ≤ mb ∧ s10 = .int .i64 i ∧ Hid ((∃ t, Par w0 wr d r F G t t ∧ Szl t M) ∧ Own TE wr ob cb L)) (fun s10 _ _ _ _ _ => mb - (intOf s10).toNat)
    case atStart => exact ⟨0, by omega, rfl, P5.out, HL5.out.2⟩
    case round =>
      obtain ⟨i, hi, rfl, HI⟩ := hrel
      rename World => wr
      by_cases hlt2 : i < mb
      case neg =>
        have hlt2' : ¬ (i : Int) < mb := by omega
        obtain ⟨⟨t6, hP6, hZ6⟩, hO6⟩ := HI.out
        have P6 : Hid (Par w0 wr d r F G t6 t6 ∧ Szl t6 M) := ⟨hP6, hZ6⟩
        clear hP6 hZ6 hO6 HI P5 HL5
        go_wp2_with fail
        refine (dn_crash 0 P6.out.1.dn rfl (by simp [i64])).mono ?_
        rintro e w7 ⟨rfl, hd7, hk7⟩
        have P7 : Hid (Par w0 w7 d r F G (Dk.crash 0 t6) t6) := P6.out.1.opd1 hd7 hk7
        clear hd7 hk7
        go_wp2_with fail
        refine (rcrash_any w7 r G t6 0 P7.out.rd (by simp [i64])).mono ?_
        rintro e w8 ⟨rfl, hd8, hk8⟩
        have P8 : Hid (∃ t, Par w0 w8 d r F G t t ∧ Szl t M) := ⟨_, P7.out.opr1 hd8 hk8, P6.out.2.crash 0⟩
        clear hd8 hk8 P7 P6
        go_wp2_with fail
        go_roundw
        case rel => exact ⟨k + 1, by omega, by go_num, P8⟩
        case measure => simp [intOf]; omega
      have hlt2' : (i : Int) < mb := by omega
      have hil : i < L.length := by have := HL5.out.1; omega
      obtain ⟨⟨t6, hP6, hZ6⟩, hO6⟩ := HI.out
      obtain ⟨b1, off1, e1, d1⟩ := hO6.sl.at hil
      obtain ⟨x, hx⟩ : ∃ x, x = L.getD i e0 := ⟨_, rfl⟩
      have hxs : x.size ≤ 32 := hLs.out x (by rw [hx]; simp [List.getD, hil])
      rw [← hx] at d1
      have P6 : Hid (Par w0 wr d r F G t6 t6 ∧ Szl t6 M) := ⟨hP6, hZ6⟩
      have O6 : Hid (Own TE wr ob cb L) := hO6
      have hbl : (Dk.readB x.data.toList (Dk.tick t6)).length ≤ 140737488355328 := Nat.le_trans (hZ6.tick.read _) HM.out
      have hrd := dn_read (s' := Dk.tick t6) (er := Dk.readE x.data.toList (Dk.tick t6)) (b := Dk.readB x.data.toList (Dk.tick t6)) x hP6.dn rfl rfl rfl (by unfold maxLen; omega) hbl
      have ZT : Hid (Szl (Dk.tick t6) M) := hZ6.tick
      have HBL : Hid ((Dk.readB x.data.toList (Dk.tick t6)).length ≤ 140737488355328) := hbl
      have HX : Hid (x = L.getD i e0 ∧ i < L.length) := ⟨hx, hil⟩
      have E1 : Hid (ob = some ⟨b1, off1, none⟩) := e1
      clear hP6 hZ6 hO6 HI P5 hx hil hxs hbl
      subst e1
      go_wp2_with fail
      refine hrd.mono ?_
      rintro e w7 ⟨oa7, ca7, ma7, rfl, hma7, hoa7, hna7, hd7, hk7⟩
      have P7 : Hid (Par w0 w7 d r F G (Dk.tick t6) t6) := P6.out.1.opd1 hd7 hk7
      have O7 : Hid (Own TE w7 (some ⟨b1, off1, none⟩) cb L) := O6.out.keeps hk7 NB.out.1
      have NA7 : Hid (Own BU w7 oa7 ca7 (Dk.readB x.data.toList (Dk.tick t6)) ∧ ma7 = (Dk.readB x.data.toList (Dk.tick t6)).length ∧ (∀ b, inO oa7 b → ¬ G b)) := ⟨hoa7, hma7.out, fun b hb hf => by have := P6.out.1.rd.lt b hf; have := hna7 b hb; omega⟩
      obtain ⟨b2, off2, e2, d2⟩ := O7.out.sl.at HX.out.2
      cases e2
      rw [← HX.out.1] at d2
      have hrr := rread_any w7 r G t6 x P7.out.rd HBL.out
      clear hrd hma7 hoa7 hna7 hd7 hk7 P6 O6 d1
      go_wp2_with fail
      refine hrr.mono ?_
      rintro e w8 ⟨oa8, ca8, ma8, rfl, hma8, hoa8, hna8, hd8, hk8⟩
      have P8 : Hid (∃ t, Par w0 w8 d r F G t t ∧ Szl t M) := ⟨_, P7.out.opr1 hd8 hk8, ZT.out⟩
      have O8 : Hid (Own TE w8 (some ⟨b1, off1, none⟩) cb L) := O7.out.keeps hk8 NB.out.2
      have hsm := sameb_eq w8 oa7 ma7 ca7 oa8 ma8 ca8 _ NA7.out.2.1 hma8.out (NA7.out.1.keeps hk8 NA7.out.2.2).sl.row hoa8.sl.row
      generalize Dk.readE x.data.toList (Dk.tick t6) = E6
      clear hrr hma8 hoa8 hna8 hd8 hk8 P7 O7 d2 NA7 HBL ZT
      go_wp2_with fail
      refine hsm.mono ?_
      rintro e w9 ⟨rfl, hw9⟩
      subst w9
      clear hsm
      go_wp2_with fail
      go_roundw
      case rel => exact ⟨i + 1, by omega, by go_num, P8.out, O8.out⟩
      case measure => simp [intOf]; omega
end Go.Proofs.YtdemoghlibnooaaGreatDoor
namespace Go.Proofs.YtdemoghlibnooaaGreatDoor
open Go.RowKit Orl Pk Go.Sort
set_option linter.unusedVariables false
set_option linter.unusedSimpArgs false
def Zs (s : St) : Prop := ∀ m v, s.V m = some v → m.2 < s.last m.1 → v.stamp = 0
def Tiny (s : St) : Prop := ∀ m v, s.V m = some v → m.1.size ≤ 4 ∧ v.val.size ≤ 300 ∧ v.keys.length ≤ 6 ∧ ∀ k ∈ v.keys, k.size ≤ 4
structure Nice (s : St) : Prop where
  ok : Ok s
  z : Zs s
  tiny : Tiny s
theorem nice_new : Nice St.new := ⟨ok_new, (fun m v h => by cases h), fun m v h => by cases h⟩
theorem putAll_some {i : Nat} {keys : List Tx} {now : Int} : ∀ (ps : List Pr) (s : St) {m : Mk} {v : Vr}, (putAll i keys now s ps).V m = some v → s.V m = some v ∨ ∃ p ∈ ps, m = (p.1, i) ∧ v = ⟨p.2, keys, stampOf s i now p.1⟩
  | [], s, m, v, h => .inl h
  | p :: r, s, m, v, h => by
    have h : (putAll i keys now (put1 i keys now s p) r).V m = some v := h
    rcases putAll_some r _ h with h1 | ⟨q, hq, e1, e2⟩
    · have h1 : (if m = (p.1, i) then some (⟨p.2, keys, stampOf s i now p.1⟩ : Vr) else s.V m) = some v := h1
      by_cases e : m = (p.1, i)
      · rw [if_pos e] at h1
        injection h1 with h1
        exact .inr ⟨p, by simp, e, h1.symm⟩
      · rw [if_neg e] at h1
        exact .inl h1
    · exact .inr ⟨q, by simp [hq], e1, e2⟩
theorem zs_put {i : Nat} {keys : List Tx} {s : St} (h : Zs s) (ps : List Pr) : Zs (putAll i keys 0 s ps) := fun m v hv hl => by
  rw [putAll_last] at hl
  rcases putAll_some ps s hv with h1 | ⟨p, hp, rfl, rfl⟩
  · exact h m v h1 hl
  · show stampOf s i 0 p.1 = 0
    unfold stampOf
    rw [if_pos hl]
theorem zs_commit {s : St} (hok : Ok s) (h : Zs s) (i : Nat) : Zs (commitS s i 0) := fun m v hv hl => by
  obtain ⟨u, hu, _, _, hs⟩ := com_some hv
  rcases hs with hs | ⟨_, hs⟩
  · rw [hs]
    by_cases hm : m.2 < s.last m.1
    · exact h m u hu hm
    · have h1 := (hok.st m u hu).2 hm
      have h2 := ok_commit hok (i := i) (now := 0) (by decide)
      have h3 := (h2.st m v hv).1 hl
      omega
  · exact hs
def TinyR (r : Rec) : Prop := (∀ p ∈ r.pairs, p.1.size ≤ 4 ∧ p.2.size ≤ 300) ∧ r.keys.length ≤ 6 ∧ ∀ k ∈ r.keys, k.size ≤ 4
theorem Nice.go {s : St} (h : Nice s) {r : Rec} (hm : may r = true) (hi : r.id < 18446744073709551616) (ht : TinyR r) : Nice (doRec 0 s r) := by
  refine ⟨do_ok h.ok (by decide) hm hi, ?_, ?_⟩
  · unfold doRec
    split
    · exact zs_put h.z _
    · exact zs_commit h.ok h.z _
  · unfold doRec
    split
    · intro m v hv
      rcases putAll_some _ _ hv with h1 | ⟨p, hp, rfl, rfl⟩
      · exact h.tiny m v h1
      · have hp := (List.mem_filter.1 hp).1
        exact ⟨(ht.1 p hp).1, (ht.1 p hp).2, ht.2.1, ht.2.2⟩
    · intro m v hv
      obtain ⟨u, hu, h1, h2, _⟩ := com_some hv
      rw [h1, h2]
      exact h.tiny m u hu
theorem layL_tiny (ls : List Mk) (h : ∀ l ∈ ls, l.1.size ≤ 4) : (layL ls).length ≤ 16 * ls.length := by
  induction ls with
  | nil => simp [layL]
  | cons l r ih =>
    have := ih (fun x hx => h x (by simp [hx]))
    have h1 := h l (by simp)
    simp only [layL, List.flatMap_cons, List.length_append, layL1_length, List.length_cons] at this ⊢
    omega
theorem bodyLen_tiny : ∀ l : List Tx, (∀ k ∈ l, k.size ≤ 4) → bodyLen (natss l) ≤ 8 * l.length
  | [], _ => by simp [natss, bodyLen]
  | k :: l, h => by
    have h1 := bodyLen_tiny l (fun x hx => h x (by simp [hx]))
    have h2 := h k (by simp)
    have e : bodyLen (natss (k :: l)) = 4 + (nats k).length + bodyLen (natss l) := rfl
    rw [e, nats_length, List.length_cons]
    omega
theorem layV_tiny (vs : List VT) (h : ∀ v ∈ vs, v.1.1.size ≤ 4 ∧ v.2.1.size ≤ 300 ∧ v.2.2.length ≤ 6 ∧ ∀ k ∈ v.2.2, k.size ≤ 4) : (layV vs).length ≤ 400 * vs.length := by
  induction vs with
  | nil => simp [layV]
  | cons v r ih =>
    have := ih (fun x hx => h x (by simp [hx]))
    have h1 := h v (by simp)
    have h2 := bodyLen_tiny v.2.2 h1.2.2.2
    simp only [layV, List.flatMap_cons, List.length_append, layV1_length, List.length_cons] at this ⊢
    omega
theorem Nice.len {s : St} (h : Nice s) {g : Nat} {b : List Nat} (hb : SnOf s g b) {N : Nat} (hN : ∀ ls ks, Tld s ls ks → ks.length ≤ N) (hN2 : N ≤ 2000000) : b.length ≤ 8000000000 := by
  obtain ⟨ls, ks, hT, rfl⟩ := hb
  have h1 := ls_le h.ok hT
  have h2 := hN ls ks hT
  have h3 := layL_tiny ls (fun l hl => by
    have e1 := (hT.la.2 l.1 l.2).1 hl
    have e2 := h.ok.la l.1 (by rw [e1.1]; exact e1.2)
    cases hv : s.V (l.1, s.last l.1) with
    | none => exact absurd hv e2
    | some v => exact (h.tiny _ v hv).1)
  have h4 := layV_tiny (vts ks) (fun v hv => by
    obtain ⟨x, hx, rfl⟩ := List.mem_map.1 hv
    exact h.tiny _ _ (hT.is x hx))
  have h5 : (vts ks).length = ks.length := by simp [vts]
  rw [snap_length, snBody_length]
  omega
end Go.Proofs.YtdemoghlibnooaaGreatDoor
