import Derived.Test.YtpfbbfbghldmjaaA4
namespace Go.Proofs.Ytpfbbfbghldmjaa
open Go.RowKit Go.Sort Orl
set_option linter.unusedVariables false
set_option linter.unusedSimpArgs false

def refStep (a : List Tx) (out : List Tx) (x : Tx) : List Tx := if inn a x then out else put lts e0 out x
def refU (a b : List Tx) : List Tx := b.foldl (refStep a) a
theorem refU_take (a b : List Tx) (k : Nat) (h : k < b.length) : refU a (b.take (k + 1)) = refStep a (refU a (b.take k)) (b.getD k e0) := by
  rw [take_succ_getD b k e0 h]; simp [refU]
theorem refU_len (a : List Tx) : ∀ b o : List Tx, (b.foldl (refStep a) o).length ≤ o.length + b.length
  | [], o => by simp
  | x :: r, o => by
    have := refU_len a r (refStep a o x)
    have h2 : (refStep a o x).length ≤ o.length + 1 := by
      unfold refStep; split
      · omega
      · rw [put_length]; omega
    simp only [List.foldl_cons, List.length_cons]
    omega

set_option maxRecDepth 10000 in
theorem refUnion_any (w : World) (oa : Option Addr) (na ca : Nat) (ob : Option Addr) (nb cb : Nat) (sa sb : List Tx) (hna : na = sa.length) (hnb : nb = sb.length) (hla : sa.length ≤ 10000) (hlb : sb.length ≤ 10000) (ha : Sl TE w oa ca sa) (hb : Sl TE w ob cb sb) :
    Calls Try.prog 32 #[.slice oa na ca, .slice ob nb cb] w fun e w' => ∃ v, e = .returned (.tuple #[v, .int .i64 (if rising lts sa && rising lts sb then 0 else 40)]) ∧ Gives TE w (if rising lts sa && rising lts sb then refU sa sb else []) v w' := by
  have hra := refRising_any w oa na ca sa hna (by unfold Small; omega) ha
  have hrb := fun w' (hk : Keeps no w w') => refRising_any w' ob nb cb sb hnb (by unfold Small; omega) (hb.keepsN hk)
  have HA : Hid (na = sa.length) := hna
  have HB : Hid (nb = sb.length) := hnb
  have hB : (nb : Int) ≤ 10000 := by omega
  have HL : Hid (sa.length ≤ 10000 ∧ sb.length ≤ 10000) := ⟨hla, hlb⟩
  clear hna hnb hla hlb
  cases e : rising lts sa && rising lts sb
  · have hor : rising lts sa = false ∨ (rising lts sa = true ∧ rising lts sb = false) := by
      cases e1 : rising lts sa
      · exact .inl rfl
      · rw [e1] at e; exact .inr ⟨rfl, by simpa using e⟩
    clear e
    rcases hor with e1 | ⟨e1, e2⟩
    · rw [e1] at hra
      clear e1
      cases e2 : rising lts sb <;> rw [e2] at hrb
      all_goals
        (clear e2
         go_enter Try.func32, Try.ntmps32
         go_wp2_with fail
         refine hra.mono ?_
         rintro e w1 ⟨rfl, hk1⟩
         go_wp2_with fail
         refine (hrb w1 hk1).mono ?_
         rintro e w2 ⟨rfl, hk2⟩
         go_wp2_with fail
         go_ret2
         exact ⟨_, rfl, none, 0, 0, rfl, (show 0 = _ by simp), own_nil _, new_none _, hk1.trans hk2⟩)
    · rw [e1] at hra
      rw [e2] at hrb
      clear e1 e2
      go_enter Try.func32, Try.ntmps32
      go_wp2_with fail
      refine hra.mono ?_
      rintro e w1 ⟨rfl, hk1⟩
      go_wp2_with fail
      refine (hrb w1 hk1).mono ?_
      rintro e w2 ⟨rfl, hk2⟩
      go_wp2_with fail
      go_ret2
      exact ⟨_, rfl, none, 0, 0, rfl, (show 0 = _ by simp), own_nil _, new_none _, hk1.trans hk2⟩
  · have e1 : rising lts sa = true ∧ rising lts sb = true := by simpa using e
    rw [e1.1] at hra
    rw [e1.2] at hrb
    clear e1 e
    go_enter Try.func32, Try.ntmps32
    go_wp2_with fail
    refine hra.mono ?_
    rintro e w1 ⟨rfl, hk1⟩
    go_wp2_with fail
    refine (hrb w1 hk1).mono ?_
    rintro e w2 ⟨rfl, hk2⟩
    have k2 := hk1.trans hk2
    go_wp2_with (at_builtin; refine wpList_app okT rfl _ _ rfl _ _ _ [] rfl rfl (own_nil _) _ _ _ sa rfl HA.out ha.nil (ha.row.keepsN k2) (by have := HL.out; simp [TE]; omega) (by have := HL.out; simp; omega) ?_; intro o1 c1 w3 ho1 hap1)
    have k3 := hap1.new (w0 := w) (new_none _) k2
    go_loopw [8, 9] (fun s3 i wr => ∃ (k : Nat) (v : Value), k ≤ nb ∧ i = .int .i64 k ∧ s3 = v ∧ Hid (Gives TE w (refU sa (sb.take k)) v wr)) (fun _ i _ => nb - (intOf i).toNat)
    case atStart => exact ⟨0, _, by omega, rfl, rfl, ⟨o1, _, c1, rfl, (show _ = _ by have := HA.out; simp [refU]; omega), by simpa [refU] using ho1, k3.1, k3.2⟩⟩
    case round =>
      obtain ⟨k, v, hk, rfl, rfl, HG⟩ := hrel
      obtain ⟨o, m, d, rfl, hm, ho, hnw, hkp⟩ := HG.out
      by_cases h2 : k < nb
      · have hka : k < sb.length := by have := HB.out; omega
        have hb' := hb.keepsN hkp
        have ha' := ha.keepsN hkp
        obtain ⟨b1, off1, rfl, d1⟩ := hb'.at hka
        obtain ⟨x, hx⟩ : ∃ x, x = sb.getD k e0 := ⟨_, rfl⟩
        rw [← hx] at d1
        have HX : Hid (x = sb.getD k e0) := hx
        clear hx hka
        have hin := in_any wr oa na ca sa x HA.out (by unfold Small; have := HL.out; omega) ha'
        have hlen := refU_len sa (sb.take k) sa
        have HLen : Hid ((refU sa (sb.take k)).length ≤ sa.length + (sb.take k).length) := hlen
        clear hlen
        cases hi : inn sa x <;> rw [hi] at hin
        · have HI : Hid (inn sa x = false) := hi
          clear hi
          go_wp2_with fail
          refine hin.mono ?_
          rintro e w' ⟨rfl, rfl⟩
          go_wp2_with fail
          refine (put_any _ o m d (refU sa (sb.take k)) x hm.out (by have := HLen.out; rw [List.length_take] at this; have := HL.out; omega) ho.sl).mono ?_
          rintro e w' ⟨v, rfl, o', m', d', rfl, hm', ho', hnw', hkp'⟩
          go_wp2_with fail
          go_roundw
          case rel =>
            refine ⟨k + 1, _, by omega, by go_num, rfl, ?_⟩
            show Gives TE w (refU sa (sb.take (k + 1))) _ w'
            rw [refU_take sa sb k (by have := HB.out; omega), ← HX.out]
            unfold refStep
            rw [HI.out]
            exact ⟨o', m', d', rfl, hm', ho', hnw'.of_le hkp.size, hkp.trans hkp'⟩
          case measure => simp [intOf] <;> omega
        · have HI : Hid (inn sa x = true) := hi
          clear hi
          go_wp2_with fail
          refine hin.mono ?_
          rintro e w' ⟨rfl, rfl⟩
          go_wp2_with fail
          go_roundw
          case rel =>
            refine ⟨k + 1, _, by omega, by go_num, rfl, ?_⟩
            show Gives TE w (refU sa (sb.take (k + 1))) _ _
            rw [refU_take sa sb k (by have := HB.out; omega), ← HX.out]
            unfold refStep
            rw [HI.out]
            exact ⟨o, m, d, rfl, hm, ho, hnw, hkp⟩
          case measure => simp [intOf] <;> omega
      · go_wp2_with fail
        go_ret2
        have he : sb.take k = sb := List.take_of_length_le (by have := HB.out; omega)
        rw [he] at hm ho
        exact ⟨_, rfl, o, m, d, rfl, hm, ho, hnw, hkp⟩

def someL (a b : List Tx) (has : Bool) : List Tx := a.filter fun x => inn b x == has
theorem someL_take (a b : List Tx) (has : Bool) (k : Nat) (h : k < a.length) : someL (a.take (k + 1)) b has = someL (a.take k) b has ++ (if inn b (a.getD k e0) == has then [a.getD k e0] else []) := by
  rw [take_succ_getD a k e0 h]
  unfold someL
  rw [List.filter_append]
  congr 1
  simp only [List.filter_cons, List.filter_nil]
theorem someL_len (a b : List Tx) (has : Bool) : (someL a b has).length ≤ a.length := List.length_filter_le _ _

set_option maxRecDepth 10000 in
theorem some_any (has : Bool) (w : World) (oa : Option Addr) (na ca : Nat) (ob : Option Addr) (nb cb : Nat) (sa sb : List Tx) (hna : na = sa.length) (hnb : nb = sb.length) (hla : sa.length ≤ 10000) (hlb : sb.length ≤ 10000) (ha : Sl TE w oa ca sa) (hb : Sl TE w ob cb sb) :
    Calls Try.prog 46 #[.slice oa na ca, .slice ob nb cb, .bool has] w fun e w' => ∃ v, e = .returned (.tuple #[v, .int .i64 (if rising lts sa && rising lts sb then 0 else 40)]) ∧ Gives TE w (if rising lts sa && rising lts sb then someL sa sb has else []) v w' := by
  have hra := refRising_any w oa na ca sa hna (by unfold Small; omega) ha
  have hrb := fun w' (hk : Keeps no w w') => refRising_any w' ob nb cb sb hnb (by unfold Small; omega) (hb.keepsN hk)
  have HA : Hid (na = sa.length) := hna
  have HB : Hid (nb = sb.length) := hnb
  have hA : (na : Int) ≤ 10000 := by omega
  have HL : Hid (sa.length ≤ 10000 ∧ sb.length ≤ 10000) := ⟨hla, hlb⟩
  clear hna hnb hla hlb
  cases e : rising lts sa && rising lts sb
  · have hor : rising lts sa = false ∨ (rising lts sa = true ∧ rising lts sb = false) := by
      cases e1 : rising lts sa
      · exact .inl rfl
      · rw [e1] at e; exact .inr ⟨rfl, by simpa using e⟩
    clear e
    rcases hor with e1 | ⟨e1, e2⟩
    · rw [e1] at hra
      clear e1
      cases e2 : rising lts sb <;> rw [e2] at hrb
      all_goals
        (clear e2
         go_enter Try.func46, Try.ntmps46
         go_wp2_with fail
         refine hra.mono ?_
         rintro e w1 ⟨rfl, hk1⟩
         go_wp2_with fail
         refine (hrb w1 hk1).mono ?_
         rintro e w2 ⟨rfl, hk2⟩
         go_wp2_with fail
         go_ret2
         exact ⟨_, rfl, none, 0, 0, rfl, (show 0 = _ by simp), own_nil _, new_none _, hk1.trans hk2⟩)
    · rw [e1] at hra
      rw [e2] at hrb
      clear e1 e2
      go_enter Try.func46, Try.ntmps46
      go_wp2_with fail
      refine hra.mono ?_
      rintro e w1 ⟨rfl, hk1⟩
      go_wp2_with fail
      refine (hrb w1 hk1).mono ?_
      rintro e w2 ⟨rfl, hk2⟩
      go_wp2_with fail
      go_ret2
      exact ⟨_, rfl, none, 0, 0, rfl, (show 0 = _ by simp), own_nil _, new_none _, hk1.trans hk2⟩
  · have e1 : rising lts sa = true ∧ rising lts sb = true := by simpa using e
    rw [e1.1] at hra
    rw [e1.2] at hrb
    clear e1 e
    go_enter Try.func46, Try.ntmps46
    go_wp2_with fail
    refine hra.mono ?_
    rintro e w1 ⟨rfl, hk1⟩
    go_wp2_with fail
    refine (hrb w1 hk1).mono ?_
    rintro e w2 ⟨rfl, hk2⟩
    have k2 := hk1.trans hk2
    go_wp2_with fail
    go_loopw [10, 11] (fun s3 i wr => ∃ (k : Nat) (v : Value), k ≤ na ∧ i = .int .i64 k ∧ s3 = v ∧ Hid (Gives TE w (someL (sa.take k) sb has) v wr)) (fun _ i _ => na - (intOf i).toNat)
    case atStart => exact ⟨0, _, by omega, rfl, rfl, ⟨none, _, 0, rfl, (show 0 = _ by simp [someL]), by simpa [someL] using own_nil _, new_none _, k2⟩⟩
    case round =>
      obtain ⟨k, v, hk, rfl, rfl, HG⟩ := hrel
      obtain ⟨o, m, d, rfl, hm, ho, hnw, hkp⟩ := HG.out
      by_cases h2 : k < na
      · have hka : k < sa.length := by have := HA.out; omega
        have hb' := hb.keepsN hkp
        have ha' := ha.keepsN hkp
        obtain ⟨b1, off1, rfl, d1⟩ := ha'.at hka
        obtain ⟨x, hx⟩ : ∃ x, x = sa.getD k e0 := ⟨_, rfl⟩
        rw [← hx] at d1
        have HX : Hid (x = sa.getD k e0) := hx
        clear hx hka
        have hin := in_any wr ob nb cb sb x HB.out (by unfold Small; have := HL.out; omega) hb'
        have HLen : Hid ((someL (sa.take k) sb has).length ≤ (sa.take k).length) := someL_len _ _ _
        obtain ⟨B, hi⟩ : ∃ B, inn sb x = B := ⟨_, rfl⟩
        rw [hi] at hin
        have HI : Hid (inn sb x = B) := hi
        clear hi
        by_cases hbh : B = has
        · subst hbh
          cases B
          all_goals
            (go_wp2_with (first
              | (go_at_call 44; refine hin.mono ?_; rintro e w' ⟨rfl, rfl⟩)
              | (at_builtin; refine wpList_app okT rfl _ _ rfl _ _ _ _ rfl hm.out (ho.keepsN ((Keeps.refl _ _).alloc _)) _ _ _ [x] rfl rfl (own_one _ x).nil (own_one _ x).row (by have := HL.out; have := HLen.out; rw [List.length_take] at this; simp [TE]; omega) (by have := HL.out; have := HLen.out; rw [List.length_take] at this; simp; omega) ?_; intro o1 c1 w3 ho1 hap1))
             go_roundw
             case rel =>
               have k4 := hap1.new (w0 := w) hnw (hkp.alloc _)
               refine ⟨k + 1, _, by omega, by go_num, rfl, ?_⟩
               show Gives TE w (someL (sa.take (k + 1)) sb _) _ _
               rw [someL_take sa sb _ k (by have := HA.out; omega), ← HX.out, HI.out]
               exact ⟨o1, _, c1, rfl, (show _ = _ by have := hm.out; simp; omega), ho1, k4.1, k4.2⟩
             case measure => simp [intOf] <;> omega)
        · have hne : (inn sb x == has) = false := by rw [HI.out]; simpa using hbh
          have HNE : Hid ((inn sb x == has) = false) := hne
          clear hne
          have hbt : (B = true ∧ has = false) ∨ (B = false ∧ has = true) := by
            cases B <;> cases has <;> simp at hbh ⊢
          clear hbh
          rcases hbt with ⟨rfl, rfl⟩ | ⟨rfl, rfl⟩
          all_goals
            (go_wp2_with (go_at_call 44; refine hin.mono ?_; rintro e w' ⟨rfl, rfl⟩)
             go_roundw
             case rel =>
               refine ⟨k + 1, _, by omega, by go_num, rfl, ?_⟩
               show Gives TE w (someL (sa.take (k + 1)) sb _) _ _
               rw [someL_take sa sb _ k (by have := HA.out; omega), ← HX.out, HNE.out]
               exact ⟨o, m, d, rfl, (show _ = _ by have := hm.out; simp; omega), by simpa using ho, hnw, hkp⟩
             case measure => simp [intOf] <;> omega)
      · go_wp2_with fail
        go_ret2
        have he : sa.take k = sa := List.take_of_length_le (by have := HA.out; omega)
        rw [he] at hm ho
        exact ⟨_, rfl, o, m, d, rfl, hm, ho, hnw, hkp⟩
end Go.Proofs.Ytpfbbfbghldmjaa
