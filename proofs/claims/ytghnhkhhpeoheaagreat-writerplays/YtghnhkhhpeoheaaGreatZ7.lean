/- Receive, Begin. -/
import Derived.Test.YtghnhkhhpeoheaaGreatZ6
namespace Go.Proofs.YtghnhkhhpeoheaaGreat
open Go.RowKit Go.Sort Orl
set_option linter.unusedVariables false
set_option linter.unusedSimpArgs false

/-- nothing told, the writer's state another -/
theorem tell_nil {w w' : World} {p cp : Nat} {F : Nat → Prop} {s : WS} {m : Nat} (h : IsWr w' p cp F s) (hc : IsCt w' cp m) (k : Keeps (fun i => F i ∨ i = cp) w w') : TellTo w p cp F ⟨s, [], m⟩ (.returned (.slice none 0 0)) w' :=
  ⟨none, 0, 0, [], F, rfl, rfl, tq_nil w', fun i hi => by rcases hi with ⟨x, e, _⟩ | ⟨j, hj, _⟩; cases e; simp at hj, h, fun i hi => .inl hi, fun i hi => by rcases hi with ⟨x, e, _⟩ | ⟨j, hj, _⟩; cases e; simp at hj, hc, k⟩
/-- an answered question -/
def doneZ (part : Int) : RZ := ⟨⟨part, 0, 0, 0, 0, none, 0, 0, none, 0, 0, none, 0, none, 0⟩, true⟩
theorem Zs.setAns {w : World} {ro : Option Addr} {rc : Nat} {rz : List RZ} {qs : List Qn} {ds : List Bool} (h : Zs w ro rc rz qs ds) (hdl : ds.length = qs.length) {j : Nat} (hj : j < qs.length) :
    ∃ g, ro = some ⟨g, 0, none⟩ ∧ (∀ i, w.frozen? ⟨g, i, none⟩ = false) ∧ At10 w g 0 j (rz.getD j rz0) ∧ Zs (w.setCells g (j * 10) (ZE.enc (doneZ (qs.getD j q0).part))) ro rc (rz.set j (doneZ (qs.getD j q0).part)) qs (ds.set j true) ∧ (∀ i, ZB ro (rz.set j (doneZ (qs.getD j q0).part)) qs.length i → ZB ro rz qs.length i) ∧ Keeps (inO ro) w (w.setCells g (j * 10) (ZE.enc (doneZ (qs.getD j q0).part))) := by
  have hjr : j < rz.length := by rw [h.len]; exact hj
  obtain ⟨g, e, hf, ho, hk⟩ := h.own.storeE okZ j hjr (doneZ (qs.getD j q0).part)
  obtain ⟨b, e2, _, ha⟩ := h.own.atZ hjr
  rw [e] at e2; cases e2
  have ho' : Own ZE (w.setCells g (j * 10) (ZE.enc (doneZ (qs.getD j q0).part))) ro rc (rz.set j (doneZ (qs.getD j q0).part)) := ho
  have hk' : Keeps (inO ro) w (w.setCells g (j * 10) (ZE.enc (doneZ (qs.getD j q0).part))) := hk
  have eR : ∀ k, (rz.set j (doneZ (qs.getD j q0).part)).getD k rz0 = if k = j then doneZ (qs.getD j q0).part else rz.getD k rz0 := fun k => getD_set rz j k _ rz0 hjr
  have eD : ∀ k, (ds.set j true).getD k true = if k = j then true else ds.getD k true := fun k => getD_set ds j k _ true (by omega)
  refine ⟨g, e, hf, ha, ⟨ho', by simp [h.len], ?_, ?_, ?_⟩, ?_, hk'⟩
  · intro k hk2
    rw [eR, eD]
    split
    · rfl
    · exact h.ans k hk2
  · intro k hk2
    rw [eR]
    split
    · rename_i e3; subst e3; rfl
    · exact h.part k hk2
  · intro k hk2 hd
    rw [eD] at hd
    rw [eR]
    split at hd
    · cases hd
    · rename_i e3
      rw [if_neg e3]
      have hq := h.each k hk2 hd
      exact hq.keeps hk' (own_apart (by decide) hq.ps h.own) (own_apart (by decide) hq.ks h.own)
  · rintro i (hi | ⟨k, hk2, hi⟩)
    · exact .inl hi
    · rw [eR] at hi
      split at hi
      · rcases hi with ⟨x, e4, _⟩ | ⟨x, e4, _⟩ <;> cases e4
      · exact .inr ⟨k, hk2, hi⟩
theorem Zs.hit {w : World} {ro : Option Addr} {rc : Nat} {rz : List RZ} {s : WS} (h : Zs w ro rc rz (qsIn s) (dsIn s)) (hr : ¬ s.round = 0) (part : Int) (req : Nat) : idxZ (hitZ part req) rz = match hitI s part req with
    | some i => (i : Int)
    | none => -1 := by
  have hd : dsIn s = s.done := by unfold dsIn; rw [if_neg hr]
  have hl : rz.length = s.ps.length := by rw [h.len, qsIn_len]
  have key : ∀ i, i < s.ps.length → hitZ part req (rz.getD i rz0) = hitB s part req i := by
    intro i hi
    have h1 := h.ans i (by rw [qsIn_len]; exact hi)
    have h2 := h.part i (by rw [qsIn_len]; exact hi)
    have h3 := h.each i (by rw [qsIn_len]; exact hi)
    rw [qsIn_at s hi] at h2 h3
    unfold qIn at h2 h3
    rw [if_neg hr] at h2 h3
    rw [hd] at h1 h3
    unfold hitZ hitB
    rw [h1, h2]
    cases e : s.done.getD i true with
    | true => rfl
    | false => rw [(h3 e).req]; rfl
  cases e : hitI s part req with
  | some i =>
    unfold hitI at e
    rw [List.find?_range_eq_some] at e
    obtain ⟨e1, e2, e3⟩ := e
    have hi := List.mem_range.1 e2
    refine idx_hit (by omega) (fun j hj => ?_) ?_
    · rw [key j (by omega)]; have := e3 j hj; simpa using this
    · rw [key i hi]; exact e1
  | none =>
    unfold hitI at e
    rw [List.find?_eq_none] at e
    refine idx_none fun j hj => ?_
    rw [key j (by omega)]
    have := e j (List.mem_range.2 (by omega))
    simpa using this
theorem Zs.open {w : World} {ro : Option Addr} {rc : Nat} {rz : List RZ} {qs : List Qn} {ds : List Bool} (h : Zs w ro rc rz qs ds) (hdl : ds.length = qs.length) : decide (0 ≤ idxZ opnZ rz) = !(ds.all id) := by
  by_cases ha : ds.all id = true
  · have : idxZ opnZ rz = -1 := idx_none fun j hj => by
      unfold opnZ
      rw [h.ans j (by rw [← h.len]; exact hj)]
      have hj2 : j < ds.length := by rw [hdl, ← h.len]; exact hj
      have := (List.all_eq_true.1 ha) ds[j] (List.getElem_mem _)
      simp only [id] at this
      rw [List.getD_eq_getElem?_getD, List.getElem?_eq_getElem hj2]
      simp [this]
    rw [this, ha]; rfl
  · have h1 : ∃ j, j < ds.length ∧ ds.getD j true = false := by
      rw [Bool.not_eq_true, List.all_eq_false] at ha
      obtain ⟨x, hx, hx2⟩ := ha
      obtain ⟨j, hj, rfl⟩ := List.getElem_of_mem hx
      exact ⟨j, hj, by rw [List.getD_eq_getElem?_getD, List.getElem?_eq_getElem hj]; simpa using hx2⟩
    have h2 : 0 ≤ idxZ opnZ rz := by
      unfold idxZ
      cases e : (List.range rz.length).find? (fun i => opnZ (rz.getD i rz0)) with
      | some i => simp
      | none =>
        obtain ⟨j, hj, hd⟩ := h1
        rw [List.find?_eq_none] at e
        have := e j (List.mem_range.2 (by rw [h.len, ← hdl]; exact hj))
        unfold opnZ at this
        rw [h.ans j (by rw [← hdl]; exact hj), hd] at this
        simp at this
    rw [decide_eq_true h2]
    cases e : ds.all id with
    | true => exact absurd e ha
    | false => rfl
theorem awB_recv {s : WS} (hw : WfS s) (he : s.ended = 0) (m : Nat) (part k : Int) (req id : Nat) : (awB (s.round : Nat) s.id k id = false → recvS s m part k req id = ⟨s, [], m⟩) ∧ (awB (s.round : Nat) s.id k id = true → ¬ s.round = 0 ∧ recvS s m part k req id = match hitI s part req with
    | none => ⟨s, [], m⟩
    | some i => doneS s i m) := by
  have hrd := hw.round
  constructor
  · intro h
    unfold recvS
    rw [if_pos]
    unfold awB wantK at *
    have hcs : s.round = 0 ∨ s.round = 1 ∨ s.round = 2 := by omega
    rcases hcs with hr | hr | hr
    · exact .inl hr
    · rw [hr] at h ⊢
      simp at h ⊢
      by_cases e : k = 5
      · exact .inr (.inr (h e))
      · exact .inr (.inl e)
    · rw [hr] at h ⊢
      simp at h ⊢
      by_cases e : k = 6
      · exact .inr (.inr (h e))
      · exact .inr (.inl e)
  · intro h
    unfold awB at h
    have hcs : s.round = 0 ∨ s.round = 1 ∨ s.round = 2 := by omega
    rcases hcs with hr | hr | hr
    · rw [hr] at h; simp at h
    · rw [hr] at h
      simp at h
      refine ⟨by omega, ?_⟩
      unfold recvS wantK
      rw [if_neg (by rw [hr]; simp [he, h.1, h.2])]
      cases hitI s part req <;> rfl
    · rw [hr] at h
      simp at h
      refine ⟨by omega, ?_⟩
      unfold recvS wantK
      rw [if_neg (by rw [hr]; simp [he, h.1, h.2])]
      cases hitI s part req <;> rfl
/-- the second round's questions as they are asked -/
def comQ (id : Nat) (r : RZ) : Qn := ⟨r.q.part, 2, ((id % 65536 : Nat) : Int), 0, id, [], []⟩
theorem comZs {w : World} {o : Option Addr} {c : Nat} {rz : List RZ} {id n : Nat} (ho : Own ZE w o c (rz.map (comZ id))) (hn : n = rz.length) : Zs w o c (rz.map (comZ id)) (rz.map (comQ id)) (List.replicate n false) := by
  have e1 : ∀ j, j < rz.length → (rz.map (comZ id)).getD j rz0 = comZ id (rz.getD j rz0) := fun j hj => by simp [List.getD_eq_getElem?_getD, hj]
  have e2 : ∀ j, j < rz.length → (rz.map (comQ id)).getD j q0 = comQ id (rz.getD j rz0) := fun j hj => by simp [List.getD_eq_getElem?_getD, hj]
  refine ⟨ho, by simp, fun j hj => ?_, fun j hj => ?_, fun j hj _ => ?_⟩
  · rw [List.length_map] at hj
    rw [e1 j hj]
    have : j < n := by omega
    simp [List.getD_eq_getElem?_getD, List.getElem?_replicate, this, comZ]
  · rw [List.length_map] at hj
    rw [e1 j hj, e2 j hj]; rfl
  · rw [List.length_map] at hj
    rw [e1 j hj, e2 j hj]
    exact ⟨rfl, rfl, rfl, rfl, rfl, rfl, own_nil w, rfl, own_nil w⟩
theorem wBegin_any (w : World) (p cp : Nat) (F : Nat → Prop) (s : WS) (m : Nat) (h : IsWr w p cp F s) (hw : WfS s) (hc : IsCt w cp m) (hm : m < 18446744073709551616) (hcF : ¬ F cp) :
    Calls Tryz.prog 10 #[.pointer (some ⟨p, 0, none⟩)] w (TellTo w p cp F (beginS s m)) := by
  by_cases he : s.ended = 0
  case neg =>
    have hb : w.heap[p]? = some (.cells (wrC s.id .nilFunc 3 (s.ended : Nat) none 0 0) 72 (0, 0)) := by
      rcases h.2.2 with ⟨_, hb⟩ | ⟨h0, _⟩
      · exact hb
      · exact absurd h0 he
    have c2 : w.cell? ⟨p, 2, none⟩ = some (.int .i64 3) := by rw [cell_of_blk hb]; rfl
    have HZ : Hid (TellTo w p cp F (beginS s m) (.returned (.slice none 0 0)) w) := by rw [begin_end he]; exact tell_none h hc hcF (Keeps.refl _ _)
    clear h hw hc hcF hb
    go_enter Tryz.func10, Tryz.ntmps10
    go_wp2_with fail
    go_ret
    exact HZ.out
  case pos =>
  obtain ⟨ro, rn, rc, rz, hl⟩ : ∃ ro rn rc rz, WrL w p cp F s.id (s.round : Nat) ro rn rc rz (qsIn s) (dsIn s) := by
    rcases h.2.2 with ⟨h0, _⟩ | ⟨_, h1⟩
    · exact absurd he h0
    · exact h1
  have c2 : w.cell? ⟨p, 2, none⟩ = some (.int .i64 (s.round : Nat)) := by rw [cell_of_blk hl.blk]; rfl
  have c4 : w.cell? ⟨p, 4, none⟩ = some (.slice ro rn rc) := by rw [cell_of_blk hl.blk]; rfl
  by_cases hr : s.round = 0
  · have HA : Hid (Calls Tryz.prog 33 #[.pointer (some ⟨p, 0, none⟩), .int .i64 1, .slice ro rn rc] w (TellTo w p cp F (beginS s m))) := by
      have hr2 : ¬ (askS s m).round = 0 := by show ¬ s.round + 1 = 0; omega
      have hds : dsIn s = List.replicate (askS s m).ps.length false := by unfold dsIn; rw [if_pos hr]; rfl
      have hz := hl.zs
      rw [hds] at hz
      have := ask_any w p cp F (s.round : Nat) ro rn rc (askS s m) m ro rn rc rz (qsIn s) hl.blk hz hl.rn hl.foot h.1 h.2.1 hc hm hcF (hw.ask m (by omega)) he rfl (.inl (by show s.round + 1 = 1; omega)) (by rw [qsIn_len]; rfl) (fun j hj => by
        rw [qsIn_len] at hj
        rw [qsIn_at s hj]
        unfold qIn
        rw [if_neg hr2, if_pos hr]
        unfold qAt
        have e1 : (askS s m).round = 1 := by show s.round + 1 = 1; omega
        rw [if_pos e1, if_pos e1, if_pos e1]
        rfl)
      have e1 : (((askS s m).round : Nat) : Int) = 1 := by show ((s.round + 1 : Nat) : Int) = 1; rw [hr]; rfl
      rw [e1] at this
      have e2 : beginS s m = ⟨askS s m, askedS (askS s m), numS (askS s m) m⟩ := by unfold beginS; rw [if_pos ⟨hr, he⟩]; rfl
      rw [e2]
      exact this
    rw [hr] at c2
    clear h hw hc hcF hl hr he
    go_enter Tryz.func10, Tryz.ntmps10
    go_wp2_with fail
    refine HA.out.mono ?_
    rintro e w' ⟨o, n, c, rs, G, rfl, t⟩
    have HT : Hid _ := t
    clear t
    go_wp2_with fail
    go_ret
    exact ⟨o, n, c, rs, G, rfl, HT.out⟩
  · have HZ : Hid (TellTo w p cp F (beginS s m) (.returned (.slice none 0 0)) w) := by
      have : beginS s m = ⟨s, [], m⟩ := by unfold beginS; rw [if_neg (fun hh => hr hh.1)]
      rw [this]; exact tell_none h hc hcF (Keeps.refl _ _)
    have hr' : ¬ ((s.round : Nat) : Int) = 0 := by omega
    have hr2 : (((s.round : Nat) : Int) == 0) = false := by simpa using hr
    clear h hw hc hcF hl he
    generalize s.round = R at c2 hr' hr hr2
    go_enter Tryz.func10, Tryz.ntmps10
    go_wp2_with fail
    go_ret
    exact HZ.out
end Go.Proofs.YtghnhkhhpeoheaaGreat
