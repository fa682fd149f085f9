import Derived.Test.YtagekdmkidbhpaaGreatSW
/- RetainAnswers. -/
namespace Go.Proofs.YtagekdmkidbhpaaGreat
open Go.RowKit Go.Maps Go.Sort Orl
set_option linter.unusedVariables false
set_option linter.unusedSimpArgs false

def NE : El Int := ⟨2, 54, 1, 8, fun z => [.int .i64 z]⟩
theorem infoN : (Tryz.prog.info? 2).map (fun i => (i.zero, i.size, i.bytes)) = some (some (.int .i64 0), 1, 8) := by kernel_rfl
theorem okN : NE.Ok := by
  obtain ⟨i0, hi, hz0, hz1, hz2⟩ := info_parts infoN
  exact ⟨fun _ => rfl, fun x u hu => by simp [NE] at hu; subst hu; rfl, by decide, Tryz.underlying54, i0, _, hi, hz0, hz1, hz2, rfl⟩
def I64 (z : Int) : Prop := -9223372036854775808 ≤ z ∧ z ≤ 9223372036854775807
theorem atN {w : World} {a : Option Addr} {c : Nat} {xs : List Int} (h : Sl NE w a c xs) {j : Nat} (hj : j < xs.length) : ∃ b off, a = some ⟨b, off, none⟩ ∧ w.cell? ⟨b, off + j, none⟩ = some (.int .i64 (xs.getD j 0)) := h.oneG okN rfl 0 hj _ rfl
theorem and1j (j : Nat) (hj : j < 9223372036854775808) : bits .and .i64 (j : Int) 1 = ((j % 2 : Nat) : Int) := by
  have h1 : (BitVec.ofInt 64 1).toNat = 2 ^ 1 - 1 := by decide
  have key : (BitVec.ofInt 64 (j : Int) &&& BitVec.ofInt 64 1).toNat = ((j : Int) % ((2 ^ 64 : Nat) : Int)).toNat % 2 ^ 1 := by
    rw [BitVec.toNat_and, BitVec.toNat_ofInt, h1, Nat.and_two_pow_sub_one_eq_mod]
  show IntKind.i64.wrap ((BitVec.ofInt 64 (j : Int) &&& BitVec.ofInt 64 1).toNat : Nat) = _
  rw [key, IntKind.wrap_i64]
  omega
theorem sameX {w : World} {oa : Option Addr} {na ca : Nat} {ob : Option Addr} {nb cb : Nat} {da db : List Mk} (h : da = db) (hna : na = da.length ∧ da.length ≤ 384) (hnb : nb = db.length) (ha : Sl WE w oa ca da) (hb : Sl WE w ob cb db) :
    Calls Tryz.prog 15 #[.slice oa na ca, .slice ob nb cb] w fun e w' => e = .returned (.bool true) ∧ Keeps no w w' := by
  subst h
  exact sameW_any w oa na ca ob nb cb da hna.1 hnb (by omega) ha hb
theorem skKept {w0 w : World} {p r : Nat} {s : St} {Q : Nat → Prop} (h : Sk w0 w p r s s Q) :
    Calls Tryz.prog 10 #[.pointer (some ⟨p, 0, none⟩)] w fun e w1 => ∃ o n c, e = .returned (.slice o n c) ∧ Hid (Keeps no w w1 ∧ ∀ X, Keeps no w1 X → Calls Tryz.prog 29 #[.pointer (some ⟨r, 0, none⟩)] X fun e w2 => ∃ o2 n2 c2, e = .returned (.slice o2 n2 c2) ∧ Hid (Keeps no X w2 ∧ ∀ Y, Keeps no w2 Y → Calls Tryz.prog 9 #[.slice o n c, .slice o2 n2 c2] Y fun e w3 => e = .returned (.bool true) ∧ Keeps no Y w3)) := by
  refine (h.ow.keptK (by omega)).mono ?_
  rintro e w1 ⟨o, n, c, ks, rfl, h1⟩
  refine ⟨o, n, c, rfl, h1.out.2.2.1, fun X hX => ?_⟩
  obtain ⟨B, hb⟩ := h.rb
  refine ((hb.go (h1.out.2.2.1.trans hX)).keptK).mono ?_
  rintro e w2 ⟨o2, n2, c2, ks2, rfl, h2⟩
  refine ⟨o2, n2, c2, rfl, h2.out.2, fun Y hY => ?_⟩
  exact sameKd (fun m => rfl) (h1.out.1.keepsN ((hX.trans h2.out.2).trans hY)) (h2.out.1.keepsN hY)
theorem skLasts {w0 w : World} {p r : Nat} {s : St} {Q : Nat → Prop} (h : Sk w0 w p r s s Q) :
    Calls Tryz.prog 12 #[.pointer (some ⟨p, 0, none⟩)] w fun e w1 => ∃ o n c, e = .returned (.slice o n c) ∧ Hid (Keeps no w w1 ∧ ∀ X, Keeps no w1 X → Calls Tryz.prog 31 #[.pointer (some ⟨r, 0, none⟩)] X fun e w2 => ∃ o2 n2 c2, e = .returned (.slice o2 n2 c2) ∧ Hid (Keeps no X w2 ∧ ∀ Y, Keeps no w2 Y → Calls Tryz.prog 11 #[.slice o n c, .slice o2 n2 c2] Y fun e w3 => e = .returned (.bool true) ∧ Keeps no Y w3)) := by
  refine (h.ow.lastsK (by omega)).mono ?_
  rintro e w1 ⟨o, n, c, ks, rfl, h1⟩
  refine ⟨o, n, c, rfl, h1.out.2.2.1, fun X hX => ?_⟩
  obtain ⟨B, hb⟩ := h.rb
  refine ((hb.go (h1.out.2.2.1.trans hX)).lastsK).mono ?_
  rintro e w2 ⟨o2, n2, c2, ks2, rfl, h2⟩
  refine ⟨o2, n2, c2, rfl, h2.out.2, fun Y hY => ?_⟩
  exact sameLd (fun m => rfl) (h1.out.1.keepsN ((hX.trans h2.out.2).trans hY)) (h2.out.1.keepsN hY)
theorem rb_new (w : World) : Calls Tryz.prog 20 #[] w fun e w' => ∃ r, e = .returned (.pointer (some ⟨r, 0, none⟩)) ∧ Hid (Rb (fun b => w.heap.size ≤ b) w' r St.new ∧ Keeps no w w') := by
  refine (rNew_any w).mono ?_
  rintro e w' ⟨r, he, hx⟩
  exact ⟨r, he, ⟨⟨none, 0, 0, none, 0, 0, [], [], hx.out.1, (fun x hx => by cases hx), (fun m hm => absurd rfl hm), List.Pairwise.nil, List.Pairwise.nil, fun k i => ⟨(fun h => by cases h), fun h => absurd h.1.symm (by show i ≠ 0; exact h.2)⟩⟩, ok_new, supp_new⟩, hx.out.2⟩
set_option maxRecDepth 10000 in
set_option maxHeartbeats 4000000 in
theorem answers_any (w : World) (o : Option Addr) (n c : Nat) (xs : List OV) (hn : n = xs.length) (hl : xs.length ≤ 7036874417766) (hs : Sl OE w o c xs) (hok : ∀ x ∈ xs, OkO x) (oN : Option Addr) (nN cN : Nat) (ns : List Int) (hnN : nN = ns.length) (hlN : ns.length ≤ 35184372088832) (hsN : Sl NE w oN cN ns) (hokN : ∀ x ∈ ns, I64 x) (oR : Option Addr) (nR cR : Nat) (rs : List Int) (hnR : nR = rs.length) (hlR : rs.length ≤ 35184372088832) (hsR : Sl NE w oR cR rs) (hokR : ∀ x ∈ rs, I64 x) :
    Calls Tryz.prog 5 #[.slice o n c, .slice oN nN cN, .slice oR nR cR] w fun e w' => e = .returned (.bool true) ∧ Keeps no w w' := by
  have hal := alive_any w
  have HA : Hid (n = xs.length ∧ Sl OE w o c xs ∧ ∀ x ∈ xs, OkO x) := ⟨hn, hs, hok⟩
  have HN : Hid (nN = ns.length ∧ Sl NE w oN cN ns ∧ (∀ x ∈ ns, I64 x) ∧ nR = rs.length ∧ Sl NE w oR cR rs ∧ ∀ x ∈ rs, I64 x) := ⟨hnN, hsN, hokN, hnR, hsR, hokR⟩
  have hnb : (n : Int) ≤ 7036874417766 := by omega
  have hnNb : (nN : Int) ≤ 35184372088832 := by omega
  have hnRb : (nR : Int) ≤ 35184372088832 := by omega
  clear hn hl hs hok hnN hlN hsN hokN hnR hlR hsR hokR
  go_enter Tryz.func5, Tryz.ntmps5
  go_wp2_with (go_at_call 6; refine hal.mono ?_; rintro e w1 ⟨rfl, hk1⟩)
  refine (ow_new w1).mono ?_
  rintro e w2 ⟨p, rfl, h2⟩
  go_wp2_with fail
  refine (rb_new w2).mono ?_
  rintro e w3 ⟨r, rfl, h3⟩
  have H3 : Hid (Sk w1 w3 p r St.new St.new no ∧ Keeps no w w1) := ⟨sk_new (h2.out.more (by omega)) h3.out.1 h3.out.2 (fun b hb => hb), hk1⟩
  clear hal hk1 h2 h3
  go_wp2_with fail
  go_loopw [9, 10, 11, 12, 13, 14, 15, 16, 17, 18, 19, 20, 21, 22] (fun s9 s10 _ _ _ _ _ _ _ _ _ _ _ _ wr => ∃ (j : Nat) (now : Int), j ≤ n ∧ s10 = .int .i64 j ∧ s9 = .int .i64 now ∧ 0 ≤ now ∧ now ≤ 7 * (j : Int) ∧ Hid (∃ s, Sk w1 wr p r s s no ∧ Supp s)) (fun _ s10 _ _ _ _ _ _ _ _ _ _ _ _ _ => n - (intOf s10).toNat)
  case atStart => exact ⟨0, 0, by omega, rfl, rfl, by omega, by omega, St.new, H3.out.1, supp_new⟩
  case round =>
    obtain ⟨j, now, hj, rfl, rfl, hw0, hw1, HG⟩ := hrel
    obtain ⟨s, hsk, hsu⟩ := HG.out
    have HG2 : Hid (Sk w1 wr p r s s no ∧ Supp s ∧ Keeps no w wr) := ⟨hsk, hsu, H3.out.2.trans hsk.ow.keep⟩
    clear HG hsk hsu
    by_cases hlt : j < n
    · have hlt' : (j : Int) < n := by omega
      have hjl : j < xs.length := by rw [← HA.out.1]; exact hlt
      obtain ⟨b, off, rfl, d0, d1, d2, d3, d4⟩ := atO HA.out.2.1 hjl
      have hox := HA.out.2.2 _ (getD_mem_lt ov0 hjl)
      generalize xs.getD j ov0 = x at d0 d1 d2 d3 d4 hox
      have HX : Hid (OkO x) := hox
      have HC : Hid (∀ X, Keeps no w X → X.cell? ⟨b, off + j * 5, none⟩ = some (.int .i64 x.k) ∧ X.cell? ⟨b, off + j * 5 + 1, none⟩ = some (.int .u64 ((x.i : Nat) : Int)) ∧ X.cell? ⟨b, off + j * 5 + 2, none⟩ = some (.int .u8 ((x.a : Nat) : Int)) ∧ X.cell? ⟨b, off + j * 5 + 3, none⟩ = some (.int .u8 ((x.b : Nat) : Int)) ∧ X.cell? ⟨b, off + j * 5 + 4, none⟩ = some (.string x.v)) := fun X hX => ⟨hX.cellN d0, hX.cellN d1, hX.cellN d2, hX.cellN d3, hX.cellN d4⟩
      clear d0 d1 d2 d3 d4
      obtain ⟨d0, d1, d2, d3, d4⟩ := HC.out wr HG2.out.2.2
      have hwr := write_any wr x.k ((x.i : Nat) : Int) x.a x.b x.v hox.a hox.b
      have HID : Hid (∀ X, Calls Tryz.prog 23 #[.agg #[.int .i64 x.k, .int .u64 ((x.i : Nat) : Int), .int .u8 ((x.a : Nat) : Int), .int .u8 ((x.b : Nat) : Int), .string x.v]] X fun e w' => e = .returned (.int .u64 ((x.id : Nat) : Int)) ∧ Keeps no X w') := fun X => id_any X x.k x.i hox.i ((x.a : Nat) : Int) ((x.b : Nat) : Int) x.v
      clear hox hjl
      go_wp2_with fail
      refine hwr.mono ?_
      rintro e w4 ⟨y1, y2, rfl, o1, n1, c1, o2, n2, c2, rfl, rfl, hnn, hoo⟩
      obtain ⟨Q, hQ⟩ : ∃ Q : Nat → Prop, Q = fun b => no b ∨ (wr.heap.size ≤ b ∧ b < w4.heap.size) := ⟨_, rfl⟩
      have hsk4 := HG2.out.1.grow hoo.out.2.2.2.2
      rw [← hQ] at hsk4
      have H4 : Hid (Sk w1 w4 p r s s Q ∧ n1 = x.ps.length ∧ n2 = x.keys.length ∧ Own PE w4 o1 c1 x.ps ∧ Own TE w4 o2 c2 x.keys ∧ (∀ b, inO o1 b ∨ inO o2 b → Q b) ∧ Supp s) := ⟨hsk4, hnn.out.1, hnn.out.2, hoo.out.1, hoo.out.2.1, fun b hb => by
        rw [hQ]
        rcases hb with hb | hb
        · exact .inr ⟨hoo.out.2.2.1 b hb, hoo.out.1.lt b hb⟩
        · exact .inr ⟨hoo.out.2.2.2.1 b hb, hoo.out.2.1.lt b hb⟩, HG2.out.2.1⟩
      clear hsk4 hQ hnn hoo hwr d0 d1 d2 d3 d4
      obtain ⟨d0, d1, d2, d3, d4⟩ := HC.out w4 (H3.out.2.trans H4.out.1.ow.keep)
      have h7 := and7 x.i HX.out.i
      obtain ⟨q, hq⟩ : ∃ q : Int, q = ((x.i % 8 : Nat) : Int) := ⟨_, rfl⟩
      rw [← hq] at h7
      have hq0 : 0 ≤ q := by omega
      have hq1 : q ≤ 7 := by omega
      clear hq
      go_upto_block 2 with fail
      go_cut [9] from 55 to 103 (fun s9 X => ∃ now' : Int, s9 = .int .i64 now' ∧ 0 ≤ now' ∧ now' ≤ 7 * ((j : Int) + 1) ∧ Hid (∃ s', Sk w1 X p r s' s' no ∧ Supp s'))
      case first =>
        by_cases k1 : x.k = 1
        · have g1 : (x.k == 1) = true := by simp [k1]
          clear k1
          go_wp2_with fail
          refine (HID.out _).mono ?_
          rintro e w5 ⟨rfl, hk5⟩
          go_wp2_with fail
          refine ((H4.out.1.go hk5).opPut H4.out.2.2.2.2.2.2 x now o1 n1 c1 o2 n2 c2 H4.out.2.1 H4.out.2.2.1 (H4.out.2.2.2.1.sl.keepsN hk5) (H4.out.2.2.2.2.1.sl.keepsN hk5)).mono ?_
          rintro e w6 ⟨B6, z6, rfl, h6⟩
          have H6 : Hid (Sk w1 w6 p r (putO s x now) s Q ∧ Own PE w6 o1 c1 x.ps ∧ Own TE w6 o2 c2 x.keys) := ⟨h6.out.1, (H4.out.2.2.2.1.keepsN hk5).keeps h6.out.2 (fun b hb hc => hc (H4.out.2.2.2.2.2.1 b (.inl hb))), (H4.out.2.2.2.2.1.keepsN hk5).keeps h6.out.2 (fun b hb hc => hc (H4.out.2.2.2.2.2.1 b (.inr hb)))⟩
          clear h6 hk5 d0 d1 d2 d3 d4
          obtain ⟨d0, d1, d2, d3, d4⟩ := HC.out w6 (H3.out.2.trans H6.out.1.ow.keep)
          go_wp2_with fail
          refine (HID.out _).mono ?_
          rintro e w7 ⟨rfl, hk7⟩
          go_wp2_with fail
          refine ((H6.out.1.go hk7).rPut x now o1 n1 c1 o2 n2 c2 H4.out.2.1 H4.out.2.2.1 (H6.out.2.1.sl.keepsN hk7) (H6.out.2.2.sl.keepsN hk7) H4.out.2.2.2.2.2.1).mono ?_
          rintro e w8 ⟨B8, z8, rfl, h8⟩
          have H8 : Hid (Sk w1 w8 p r (putO s x now) (putO s x now) no) := h8.out.1.sub (fun b hb => hb.elim)
          clear h8 hk7 d0 d1 d2 d3 d4
          go_wp2_with fail
          go_meet
          exact ⟨now, rfl, hw0, by omega, _, H8.out, supp_put H4.out.2.2.2.2.2.2 x now⟩
        · by_cases k2 : x.k = 2
          · have g1 : (x.k == 1) = false := beq_eq_false_iff_ne.2 k1
            have g2 : (x.k == 2) = true := by simp [k2]
            clear k1 k2
            go_wp2_with fail
            refine (HID.out _).mono ?_
            rintro e w5 ⟨rfl, hk5⟩
            go_wp2_with fail
            refine ((H4.out.1.go hk5).opCommit H4.out.2.2.2.2.2.2 x now).mono ?_
            rintro e w6 ⟨B6, z6, rfl, h6⟩
            have H6 : Hid (Sk w1 w6 p r (comO s x now) s Q) := h6.out.1
            clear h6 hk5 d0 d1 d2 d3 d4
            obtain ⟨d0, d1, d2, d3, d4⟩ := HC.out w6 (H3.out.2.trans H6.out.ow.keep)
            go_wp2_with fail
            refine (HID.out _).mono ?_
            rintro e w7 ⟨rfl, hk7⟩
            go_wp2_with fail
            refine ((H6.out.go hk7).rCommit x now).mono ?_
            rintro e w8 ⟨B8, z8, rfl, h8⟩
            have H8 : Hid (Sk w1 w8 p r (comO s x now) (comO s x now) no) := h8.out.1.sub (fun b hb => hb.elim)
            clear h8 hk7 d0 d1 d2 d3 d4
            go_wp2_with fail
            go_meet
            exact ⟨now, rfl, hw0, by omega, _, H8.out, supp_com H4.out.2.2.2.2.2.2 x now⟩
          · have g1 : (x.k == 1) = false := beq_eq_false_iff_ne.2 k1
            have g2 : (x.k == 2) = false := beq_eq_false_iff_ne.2 k2
            clear k1 k2
            go_wp2_with fail
            go_meet
            exact ⟨now + q, rfl, by omega, by omega, s, H4.out.1.sub (fun b hb => hb.elim), H4.out.2.2.2.2.2.2⟩
      case rest =>
      obtain ⟨now', rfl, hw0', hw1', HS⟩ := hcut
      rename World => w5
      obtain ⟨s5, hs5, hsu5⟩ := HS.out
      have H5 : Hid (Sk w1 w5 p r s5 s5 no ∧ Supp s5) := ⟨hs5, hsu5⟩
      clear HS hs5 hsu5 d0 d1 d2 d3 d4 H4 h7
      by_cases hlN : j < nN
      · by_cases hlR : j < nR
        · --MAIN
          have hlN' : (j : Int) < nN := by omega
          have hlR' : (j : Int) < nR := by omega
          obtain ⟨bN, fN, rfl, e0N⟩ := atN HN.out.2.1 (show j < ns.length by rw [← HN.out.1]; exact hlN)
          obtain ⟨bR, fR, rfl, e0R⟩ := atN HN.out.2.2.2.2.1 (show j < rs.length by rw [← HN.out.2.2.2.1]; exact hlR)
          generalize ns.getD j 0 = nw at e0N
          generalize rs.getD j 0 = kp at e0R
          have HCN : Hid (∀ X, Keeps no w X → X.cell? ⟨bN, fN + j, none⟩ = some (.int .i64 nw) ∧ X.cell? ⟨bR, fR + j, none⟩ = some (.int .i64 kp)) := fun X hX => ⟨hX.cellN e0N, hX.cellN e0R⟩
          clear e0N e0R
          obtain ⟨E, hE⟩ : ∃ E, erZ (gdB nw kp) = E := ⟨_, rfl⟩
          obtain ⟨F, hF⟩ : ∃ F, erZ (retB kp) = F := ⟨_, rfl⟩
          have HEF : Hid (erZ (gdB nw kp) = E ∧ erZ (retB kp) = F) := ⟨hE, hF⟩
          clear hE hF
          have HZ : Hid (Keeps no w w5) := H3.out.2.trans H5.out.1.ow.keep
          have HDu : Hid (∀ X, Keeps no w5 X → Calls Tryz.prog 13 #[.pointer (some ⟨p, 0, none⟩), .int .i64 nw, .int .i64 kp] X fun e w' => ∃ o n c ds, e = .returned (.tuple #[.slice o n c, .int .i64 E]) ∧ Hid (n = ds.length ∧ ds.length ≤ 384) ∧ Hid (Own WE w' o c ds ∧ New X o ∧ Keeps no X w') ∧ Hid (DueX s5 nw kp ds)) := fun X hX => by
            have := (H5.out.1.ow.go hX).dueX nw kp
            rw [HEF.out.1] at this
            exact this
          have HRD : Hid (∀ X, Keeps no w5 X → Calls Tryz.prog 27 #[.pointer (some ⟨r, 0, none⟩), .int .i64 nw, .int .i64 kp] X fun e w' => ∃ o n c ds, e = .returned (.tuple #[.slice o n c, .int .i64 E]) ∧ Hid (n = ds.length ∧ ds.length ≤ 384) ∧ Hid (Own WE w' o c ds ∧ New X o ∧ Keeps no X w') ∧ Hid (DueX s5 nw kp ds)) := fun X hX => by
            obtain ⟨B, hb⟩ := H5.out.1.rb
            have := (hb.go hX).dueX nw kp
            rw [HEF.out.1] at this
            exact this
          have HNx : Hid (∀ X, Keeps no w5 X → Calls Tryz.prog 14 #[.pointer (some ⟨p, 0, none⟩), .int .i64 kp] X fun e w' => ∃ (z : Int) (is : Bool), e = .returned (.tuple #[.int .i64 z, .bool is, .int .i64 F]) ∧ Hid (Keeps no X w') ∧ Hid (NextX s5 kp z is)) := fun X hX => by
            have := (H5.out.1.ow.go hX).nextX kp
            rw [HEF.out.2] at this
            exact this
          have HRN : Hid (∀ X, Keeps no w5 X → Calls Tryz.prog 28 #[.pointer (some ⟨r, 0, none⟩), .int .i64 kp] X fun e w' => ∃ (z : Int) (is : Bool), e = .returned (.tuple #[.int .i64 z, .bool is, .int .i64 F]) ∧ Hid (Keeps no X w') ∧ Hid (NextX s5 kp z is)) := fun X hX => by
            obtain ⟨B, hb⟩ := H5.out.1.rb
            have := (hb.go hX).nextX kp
            rw [HEF.out.2] at this
            exact this
          go_upto_region 21 with fail
          go_region_held3 (fun X => X.cell? ⟨bN, fN + j, none⟩ = some (.int .i64 nw) ∧ X.cell? ⟨bR, fR + j, none⟩ = some (.int .i64 kp)) (first | exact HCN.out _ HKZ.out | exact HCN.out _ (HZ.out.drew) | exact HCN.out _ HZ.out) ((go_at_call 13; refine (HDu.out _ ((Keeps.refl no w5).drew)).mono ?_; rintro e w6 ⟨o6, n6, c6, l6, rfl, hn6, h6, hd6⟩; have HK6 : Hid (Keeps no w5 w6) := ((Keeps.refl no w5).drew).trans h6.out.2.2; have HKZ : Hid (Keeps no w w6) := HZ.out.trans HK6.out; have hcz := HCN.out _ HKZ.out; obtain ⟨hcz0, hcz1⟩ := hcz))
          all_goals (try (rename _ ∧ _ => hh; clear hh))
          clear hcz0 hcz1 HZ
          have HZ : Hid (Keeps no w w6) := HKZ.out
          clear HKZ
          go_upto_region 22 with fail
          go_region_held3 (fun X => X.cell? ⟨bN, fN + j, none⟩ = some (.int .i64 nw) ∧ X.cell? ⟨bR, fR + j, none⟩ = some (.int .i64 kp)) (first | exact HCN.out _ HKZ.out | exact HCN.out _ (HZ.out.drew) | exact HCN.out _ HZ.out) ((go_at_call 27; refine (HRD.out _ (HK6.out.trans ((Keeps.refl no w6).drew))).mono ?_; rintro e w7 ⟨o7, n7, c7, l7, rfl, hn7, h7, hd7⟩; have HK7 : Hid (Keeps no w6 w7) := ((Keeps.refl no w6).drew).trans h7.out.2.2; have HKZ : Hid (Keeps no w w7) := HZ.out.trans HK7.out; have hcz := HCN.out _ HKZ.out; obtain ⟨hcz0, hcz1⟩ := hcz))
          all_goals (try (rename _ ∧ _ => hh; clear hh))
          have H7 : Hid (Keeps no w5 w7 ∧ l6 = l7) := ⟨HK6.out.trans HK7.out, hd6.out.same hd7.out⟩
          have H67 : Hid (Own WE w7 o6 c6 l6 ∧ n6 = l6.length ∧ l6.length ≤ 384 ∧ Own WE w7 o7 c7 l7 ∧ n7 = l7.length) := ⟨h6.out.1.keepsN HK7.out, hn6.out.1, hn6.out.2, h7.out.1, hn7.out.1⟩
          clear hcz0 hcz1 HZ HKZ h6 h7 hn6 hn7 hd6 hd7 HK6 HK7
          have c7 := (HCN.out w7 (H3.out.2.trans (H5.out.1.ow.keep.trans H7.out.1))).2
          go_wp2_with fail
          refine (HNx.out _ H7.out.1).mono ?_
          rintro e w8 ⟨z8, is8, rfl, hk8, hx8⟩
          have c8 := (HCN.out w8 (H3.out.2.trans (H5.out.1.ow.keep.trans (H7.out.1.trans hk8.out)))).2
          clear c7
          go_wp2_with fail
          refine (HRN.out _ (H7.out.1.trans hk8.out)).mono ?_
          rintro e w9 ⟨z9, is9, rfl, hk9, hx9⟩
          obtain ⟨ez, ei⟩ := hx8.out.same hx9.out
          subst ez
          subst ei
          have H9 : Hid (Keeps no w7 w9) := hk8.out.trans hk9.out
          have hsw := sameX H7.out.2 ⟨H67.out.2.1, H67.out.2.2.1⟩ H67.out.2.2.2.2 (H67.out.1.sl.keepsN H9.out) (H67.out.2.2.2.1.sl.keepsN H9.out)
          clear c8 hk8 hk9 hx8 hx9 HDu HRD HNx HRN
          go_wp2_with fail
          refine hsw.mono ?_
          rintro e w10 ⟨rfl, hk10⟩
          have H10 : Hid (Sk w1 w10 p r s5 s5 no) := H5.out.1.go (H7.out.1.trans (H9.out.trans hk10))
          clear hsw hk10 H67 H7 H9
          go_wp2_with fail
          refine (skKept H10.out).mono ?_
          rintro e w11 ⟨o11, n11, c11, rfl, h11⟩
          go_wp2_with fail
          refine (h11.out.2 _ (Keeps.refl _ _)).mono ?_
          rintro e w12 ⟨o12, n12, c12, rfl, h12⟩
          go_wp2_with fail
          refine (h12.out.2 _ (Keeps.refl _ _)).mono ?_
          rintro e w13 ⟨rfl, hk13⟩
          have H13 : Hid (Sk w1 w13 p r s5 s5 no) := H10.out.go ((h11.out.1.trans h12.out.1).trans hk13)
          have hand := and1j j (by omega)
          clear h11 h12 hk13 H10
          by_cases hodd : j % 2 = 1
          · rw [hodd] at hand
            have hand' : bits .and .i64 (j : Int) 1 = 1 := hand
            have HZ : Hid (Keeps no w w13) := H3.out.2.trans H13.out.ow.keep
            have HCo : Hid (∀ X, Keeps no w13 X → Calls Tryz.prog 8 #[.pointer (some ⟨p, 0, none⟩), .int .i64 nw, .int .i64 kp] X fun e w' => ∃ o n c ds, e = .returned (.tuple #[.slice o n c, .int .i64 E]) ∧ Hid (n = ds.length ∧ ds.length ≤ 384) ∧ Hid (Own WE w' o c ds ∧ DueX s5 nw kp ds) ∧ Hid (Sk w1 w' p r (collX s5 nw kp) s5 (fun b => no b ∨ inO o b) ∧ Keeps (fun b => ¬ no b) X w')) := fun X hX => by
              have := (H13.out.go hX).collect nw kp
              rw [HEF.out.1] at this
              exact this
            clear hand hodd
            go_upto_region 28 with fail
            go_region_held3 (fun X => X.cell? ⟨bN, fN + j, none⟩ = some (.int .i64 nw) ∧ X.cell? ⟨bR, fR + j, none⟩ = some (.int .i64 kp)) (first | exact HCN.out _ HKZ.out | exact HCN.out _ (HZ.out.drew) | exact HCN.out _ HZ.out) ((go_at_call 8; refine (HCo.out _ ((Keeps.refl no w13).drew)).mono ?_; rintro e w14 ⟨o14, n14, c14, l14, rfl, hn14, h14, hs14⟩; have HKZ : Hid (Keeps no w w14) := H3.out.2.trans hs14.out.1.ow.keep; have hcz := HCN.out _ HKZ.out; obtain ⟨hcz0, hcz1⟩ := hcz))
            all_goals (try (rename _ ∧ _ => hh; clear hh))
            have H14 : Hid (Sk w1 w14 p r (collX s5 nw kp) s5 (fun b => no b ∨ inO o14 b) ∧ Own WE w14 o14 c14 l14 ∧ n14 = l14.length ∧ l14.length ≤ 384 ∧ DueX s5 nw kp l14) := ⟨hs14.out.1, h14.out.1, hn14.out.1, hn14.out.2, h14.out.2⟩
            clear HZ hcz0 hcz1 HCo hn14 h14 hs14
            have HZ : Hid (Keeps no w w14) := HKZ.out
            clear HKZ
            have HRC : Hid (∀ X, Keeps no w14 X → Calls Tryz.prog 30 #[.pointer (some ⟨r, 0, none⟩), .int .i64 nw, .int .i64 kp] X fun e w' => ∃ o n c ds, e = .returned (.tuple #[.slice o n c, .int .i64 E]) ∧ Hid (n = ds.length ∧ ds.length ≤ 384) ∧ Hid (Own WE w' o c ds ∧ DueX s5 nw kp ds) ∧ Hid (Sk w1 w' p r (collX s5 nw kp) (collX s5 nw kp) (fun b => no b ∨ inO o14 b) ∧ Keeps (fun b => ¬ (no b ∨ inO o14 b)) X w')) := fun X hX => by
              have := (H14.out.1.go hX).rCollect nw kp
              rw [HEF.out.1] at this
              exact this
            go_upto_region 29 with fail
            go_region_held3 (fun X => X.cell? ⟨bN, fN + j, none⟩ = some (.int .i64 nw) ∧ X.cell? ⟨bR, fR + j, none⟩ = some (.int .i64 kp)) (first | exact HCN.out _ HKZ.out | exact HCN.out _ (HZ.out.drew) | exact HCN.out _ HZ.out) ((go_at_call 30; refine (HRC.out _ ((Keeps.refl no w14).drew)).mono ?_; rintro e w15 ⟨o15, n15, c15, l15, rfl, hn15, h15, hs15⟩; have HKZ : Hid (Keeps no w w15) := H3.out.2.trans hs15.out.1.ow.keep; have hcz := HCN.out _ HKZ.out; obtain ⟨hcz0, hcz1⟩ := hcz))
            all_goals (try (rename _ ∧ _ => hh; clear hh))
            have H15 : Hid (Sk w1 w15 p r (collX s5 nw kp) (collX s5 nw kp) no) := hs15.out.1.sub (fun b hb => hb.elim)
            have hsw := sameX (H14.out.2.2.2.2.same h15.out.2) ⟨H14.out.2.2.1, H14.out.2.2.2.1⟩ hn15.out.1 ((H14.out.2.1.keepsN (Keeps.refl no w14).drew).keeps hs15.out.2 (fun b hb hc => hc (.inr hb))).sl h15.out.1.sl
            clear HZ hcz0 hcz1 HRC hn15 h15 hs15 HKZ
            go_wp2_with fail
            refine hsw.mono ?_
            rintro e w16 ⟨rfl, hk16⟩
            have H16 : Hid (Sk w1 w16 p r (collX s5 nw kp) (collX s5 nw kp) no) := H15.out.go hk16
            clear hsw hk16 H14 H15
            go_wp2_with fail
            refine (skKept H16.out).mono ?_
            rintro e w17 ⟨o17, n17, c17, rfl, h17⟩
            go_wp2_with fail
            refine (h17.out.2 _ (Keeps.refl _ _)).mono ?_
            rintro e w18 ⟨o18, n18, c18, rfl, h18⟩
            go_wp2_with fail
            refine (h18.out.2 _ (Keeps.refl _ _)).mono ?_
            rintro e w19 ⟨rfl, hk19⟩
            have H19 : Hid (Sk w1 w19 p r (collX s5 nw kp) (collX s5 nw kp) no) := H16.out.go ((h17.out.1.trans h18.out.1).trans hk19)
            clear h17 h18 hk19 H16
            go_wp2_with fail
            go_roundw
            case rel => exact ⟨j + 1, now', by omega, by go_num, rfl, hw0', by omega, collX s5 nw kp, H19.out, supp_collX H5.out.2 nw kp⟩
            case measure => simp [intOf]; omega
          · have hev : j % 2 = 0 := by omega
            rw [hev] at hand
            have hand' : bits .and .i64 (j : Int) 1 = 0 := hand
            clear hand hodd hev
            go_wp2_with fail
            go_roundw
            case rel => exact ⟨j + 1, now', by omega, by go_num, rfl, hw0', by omega, s5, H13.out, H5.out.2⟩
            case measure => simp [intOf]; omega
        · have hlN' : (j : Int) < nN := by omega
          have hlR' : ¬ (j : Int) < nR := by omega
          have hlRd : decide ((j : Int) < nR) = false := decide_eq_false hlR'
          go_wp2_with fail
          go_roundw
          case rel => exact ⟨j + 1, now', by omega, by go_num, rfl, hw0', by omega, s5, H5.out.1, H5.out.2⟩
          case measure => simp [intOf]; omega
      · have hlN' : ¬ (j : Int) < nN := by omega
        have hlNd : decide ((j : Int) < nN) = false := decide_eq_false hlN'
        go_wp2_with fail
        go_roundw
        case rel => exact ⟨j + 1, now', by omega, by go_num, rfl, hw0', by omega, s5, H5.out.1, H5.out.2⟩
        case measure => simp [intOf]; omega
    · have hjn : ¬ (j : Int) < n := by omega
      have K0 := HG2.out.1
      have HF : Hid (Sk w1 wr p r s s no) := K0
      clear K0 hlt
      go_wp2_with fail
      refine (due_nil wr 0 0).mono ?_
      rintro e v1 ⟨rfl, hv1⟩
      go_wp2_with fail
      refine (collect_nil v1 0 0).mono ?_
      rintro e v2 ⟨rfl, hv2⟩
      go_wp2_with fail
      refine (next_nil v2 0).mono ?_
      rintro e v3 ⟨rfl, hv3⟩
      have HV : Hid (Sk w1 v3 p r s s no) := HF.out.go ((hv1.trans hv2).trans hv3)
      clear hv1 hv2 hv3
      go_wp2_with fail
      refine (skKept HV.out).mono ?_
      rintro e w11 ⟨o11, n11, c11, rfl, h11⟩
      go_wp2_with fail
      refine (h11.out.2 _ (Keeps.refl _ _)).mono ?_
      rintro e w12 ⟨o12, n12, c12, rfl, h12⟩
      go_wp2_with fail
      refine (h12.out.2 _ (Keeps.refl _ _)).mono ?_
      rintro e w13 ⟨rfl, hk13⟩
      have H13 : Hid (Sk w1 w13 p r s s no) := HV.out.go ((h11.out.1.trans h12.out.1).trans hk13)
      clear h11 h12 hk13
      go_wp2_with fail
      refine (skLasts H13.out).mono ?_
      rintro e w14 ⟨o14, n14, c14, rfl, h14⟩
      go_wp2_with fail
      refine (h14.out.2 _ (Keeps.refl _ _)).mono ?_
      rintro e w15 ⟨o15, n15, c15, rfl, h15⟩
      go_wp2_with fail
      refine (h15.out.2 _ (Keeps.refl _ _)).mono ?_
      rintro e w16 ⟨rfl, hk16⟩
      have H16 : Hid (Keeps no w w16) := H3.out.2.trans (H13.out.ow.keep.trans ((h14.out.1.trans h15.out.1).trans hk16))
      clear h14 h15 hk16
      go_wp2_with fail
      go_ret
      exact ⟨rfl, H16.out⟩
end Go.Proofs.YtagekdmkidbhpaaGreat
