import Derived.Test.YtgamhblkgojapaaDoorGM8d
import Derived.Deep.RegionHeldLaw
import Derived.Deep.Light
/- WalMemory: the records behind -/
namespace Go.Proofs.YtgamhblkgojapaaDoor
open Go.RowKit Pk Dk
set_option linter.unusedVariables false
set_option linter.unusedSimpArgs false

set_option maxRecDepth 10000 in
set_option maxHeartbeats 4000000 in
theorem r54 : R54 := by
  intro w x J ID Q_i1 w1 HK1 HT w2 p F0 w3 q0 o3 c3 vs3 V gI gF gP gK w4 v4 w5 gW w6 F1 w7 w8 F2 w9 wA HGD HLN wB qA cA vA wC qB cB vB gA a1 dq osq u1 wE qE oE cE vE wF gB b1 HFR gL W0 T HRS HDUO wc1 u21 u22 u167 u168 u169 u170 u171 u172 u173 u174 u175 u176 u177 u178 u179 u180 u181 u182 u183 u184 u185 u186 u187 u188 u189 u190 u191 u192 u193 u194 u195 u196 u197 u198 u199 u200 u201 u202 u203 S1 x1 HD1 HF1 wc2 u23 u24 u204 u205 u206 u207 u208 u209 u210 u211 u212 u213 u214 u215 u216 u217 u218 u219 u220 u221 u222 u223 u224 u225 u226 u227 u228 u229 u230 u231 u232 u233 u234 u235 u236 u237 u238 u239 u240 u241 u242 u243 u244 u245 u246 u247 u248 u249 u250 u251 u252 S2 x2 HD2 HF2 wc3 u25 u253 u254 u255 u256 u257 u258 u259 u260 u261 u262 u263 u264 u265 u266 u267 u268 u269 u270 u271 S3 x3 HF3 K_j188 a_j189 J_j190 K_j191 a_j192 a_j193 wr u_j195 u27 u_j197 u272 u273 u274 u275 u276 u277 u278 u279 u280 u281 u_j208 u_j209 u_j210 u_j211 u_j212 u_j213 u_j214 u_j215 u_j216 u_j217 u_j218 u_j219 u_j220 u_j221 u_j222 u_j223 u_j224 u_j225 u_j226 u_j227 u_j228 u_j229 u_j230 u_j231 u_j232 u_j233 u_j234 u_j235 u_j236 u_j237 u_j238 u_j239 u_j240 u_j241 u_j242 u_j243 u_j244 u_j245 u_j246 u_j247 u_j248 u_j249 u_j250 u_j251 u_j252 u_j253 u_j254 u_j255 u_j256 u_j257 u_j258 u_j259 u_j260 u_j261 u_j262 u_j263 u_j264 u_j265 u_j266 u_j267 u_j268 u_j269 u_j270 u_j271 u346 u347 u348 u349 u350 u351 u352 u353 u354 u355 u356 u357 u358 u359 u360 u361 u362 u363 u364 u365 u366 u367 u368 u369 u370 u371 u372 u373 u374 u375 I hI hI2 HI1 Q HTL HLEN g HG Q_j311 K_j312 a_j313 K_j314 a_j315 ws gR wt u2 u28 u282 u283 u284 u285 u286 u287 u288 u289 u290 u291 u292 u293 u294 u295 u296 u297 u298 u299 u300 u301 u302 u303 u304 u305 u306 u307 u308 u309 u310 u311 u312 u313 u314 u315 u316 u317 u318 u319 u320 u321 u322 u323 u324 u325 u326 u327 u328 u329 u330 u331 u332 u333 u334 u335 u336 u337 u338 u339 u340 u341 u342 u343 u344 u345 HDt
  obtain ⟨g', hg', hSg, c0, d0, d1, d2, d3, e4, e5, e6, e7⟩ := HDt.out.at HI1.out
  rw [HG.out] at hg'
  cases hg'
  rw [HTL.out.1] at c0
  simp only [List.length_cons, List.length_nil, Nat.zero_add, Nat.reduceAdd] at c0
  obtain ⟨e8, e9, e10, e11⟩ := HDt.out.at2 HI1.out HG.out HTL.out.1
  generalize (x3 I).c = cI at c0
  obtain ⟨M, hM⟩ : ∃ M : Nat, M = 11 + I := ⟨_, rfl⟩
  obtain ⟨Q9, hQ9⟩ : ∃ Q9 : Nat, Q9 = 9 * 65536 := ⟨_, rfl⟩
  have hw1 : IntKind.i64.wrap (11 + (I : Int)) = (M : Int) := by rw [IntKind.wrap_i64]; omega
  have HQM : Hid (Q = M * 65536 ∧ M ≤ 1000) := ⟨by rw [HTL.out.2, hM], by omega⟩
  have HQ9 : Hid (Q9 = 9 * 65536) := hQ9
  have HV1 : Hid (∀ X, IsC X (x3 I).v1 (cmR 9)) := HF3.out.v1 I HI1.out
  clear hM hQ9 hSg d0 d1 d2 d3
  generalize (x3 I).v1 = v1 at e4 e5 e6 e7 HV1
  have cC9 := commit_grown_q (W := wt) 9 Q9 HQ9.out (by omega)
  have cCM := commit_grown_q (W := wt) M Q HQM.out.1 (by have := HQM.out; omega)
  have cS9 := same_grown (W := wt) (v := v1) (v' := cqV Q9) (r := cmR 9) (fun X hX => ⟨HV1.out X, cqV_isC X HQ9.out (by omega)⟩)
  have cSM := same_grown (W := wt) (v := cqV Q) (v' := cqV Q) (r := cmR M) (fun X hX => ⟨cqV_isC X HQM.out.1 (by have := HQM.out; omega), cqV_isC X HQM.out.1 (by have := HQM.out; omega)⟩)
  have z0 := cell_regrown c0
  have z4 := cell_regrown e4
  have z5 := cell_regrown e5
  have z6 := cell_regrown e6
  have z7 := cell_regrown e7
  have z8 := cell_regrown e8
  have z9 := cell_regrown e9
  have z10 := cell_regrown e10
  have z11 := cell_regrown e11
  simp only [cqV] at z8 z9 z10 z11 cS9 cSM
  go_wp2_with fail
  refine wp_region_quiet_below (by kernel_rfl) (by kernel_rfl) ?_
  repeat (go_big_quiet_step (first | (go_at_call_of 12 (Value.int .i64 9); exact cC9 _ _) | (go_at_call_of 12 (Value.int .i64 (M : Nat)); exact cCM _ _) | (go_at_call_of 18 (Value.agg #[Value.int .i64 v1.k, Value.int .u64 (v1.i : Nat), Value.slice v1.op v1.np v1.cp, Value.slice v1.ok v1.nk v1.ck]); exact cS9 _ _) | (go_at_call_of 18 (Value.agg #[Value.int .i64 2, Value.int .u64 (Q : Nat), Value.slice none 0 0, Value.slice none 0 0]); exact cSM _ _)))
  refine wpQuiet_nil ?_
  intro _ hw'
  obtain ⟨⟨dq', osq'⟩, rfl⟩ := hw'
  have HDU : Hid (Duo W0 T gL S3 x3 (Sort.grow (redrawn wt dq') osq')) := HDt.out.keepsN (keeps_grown ..)
  generalize Sort.grow (redrawn wt dq') osq' = wu at HDU ⊢
  clear z0 z4 z5 z6 z7 z8 z9 z10 z11 c0 e4 e5 e6 e7 e8 e9 e10 e11 cC9 cCM cS9 cSM HDt
  go_wp2_with fail
  go_roundw
  case rel => go_light; exact ⟨I + 1, by go_num, by omega, HDU⟩
  case measure => go_light; simp [intOf]; omega
end Go.Proofs.YtgamhblkgojapaaDoor
/- WalMemory: its end -/
namespace Go.Proofs.YtgamhblkgojapaaDoor
open Go.RowKit Pk Dk
set_option linter.unusedVariables false
set_option linter.unusedSimpArgs false

set_option maxRecDepth 10000 in
set_option maxHeartbeats 4000000 in
theorem memD : MemD := by
  intro w x J ID Q_i1 w1 HK1 HT w2 p F0 w3 q0 o3 c3 vs3 V gI gF gP gK w4 v4 w5 gW w6 F1 w7 w8 F2 w9 wA HGD HLN wB qA cA vA wC qB cB vB gA a1 dq osq u1 wE qE oE cE vE wF gB b1 HFR gL W0 T HRS HDUO wc1 u21 u22 u167 u168 u169 u170 u171 u172 u173 u174 u175 u176 u177 u178 u179 u180 u181 u182 u183 u184 u185 u186 u187 u188 u189 u190 u191 u192 u193 u194 u195 u196 u197 u198 u199 u200 u201 u202 u203 S1 x1 HD1 HF1 wc2 u23 u24 u204 u205 u206 u207 u208 u209 u210 u211 u212 u213 u214 u215 u216 u217 u218 u219 u220 u221 u222 u223 u224 u225 u226 u227 u228 u229 u230 u231 u232 u233 u234 u235 u236 u237 u238 u239 u240 u241 u242 u243 u244 u245 u246 u247 u248 u249 u250 u251 u252 S2 x2 HD2 HF2 wc3 u25 u253 u254 u255 u256 u257 u258 u259 u260 u261 u262 u263 u264 u265 u266 u267 u268 u269 u270 u271 S3 x3 HF3 K_j188 a_j189 wc4 u2 u26 u27 u28 u272 u273 u274 u275 u276 u277 u278 u279 u280 u281 u282 u283 u284 u285 u286 u287 u288 u289 u290 u291 u292 u293 u294 u295 u296 u297 u298 u299 u300 u301 u302 u303 u304 u305 u306 u307 u308 u309 u310 u311 u312 u313 u314 u315 u316 u317 u318 u319 u320 u321 u322 u323 u324 u325 u326 u327 u328 u329 u330 u331 u332 u333 u334 u335 u336 u337 u338 u339 u340 u341 u342 u343 u344 u345 u346 u347 u348 u349 u350 u351 u352 u353 u354 u355 u356 u357 u358 u359 u360 u361 u362 u363 u364 u365 u366 u367 u368 u369 u370 u371 u372 u373 u374 u375 HD4
  obtain ⟨hDn, hgw, hv4, hb1, q0', q1, q2, q3⟩ := HRS.out wc4 HD4.out.kp
  have HDn : Hid (Dn w1 wc4 p F2 (ts nlog.data.toList (some (fl (rb [inR J, cmR 9]))))) := hDn
  have HGW : Hid _ := hgw
  have HV4 : Hid (IsC wc4 v4 (inR J)) := hv4
  have HB1 : Hid (IsC wc4 b1 (inR J)) := hb1
  have HQ : Hid _ := And.intro q0' (And.intro q1 (And.intro q2 q3))
  clear hDn hgw hv4 hb1 q0' q1 q2 q3
  go_wp2_with fail
  refine (dn_open nlog HDn.out HT.out (ts_open2 _ HGD.out) (by decide) HLN.out).mono ?_
  rintro e wG ⟨qG, oG, mG, cG, vG, rfl, hmG, -, HSG, HDG, HKG⟩
  obtain rfl : mG = 2 := hmG.out
  have HN0 : Hid (Keeps no w1 wG) := HDG.out.kept
  have HWG : Hid _ := HKG.out.at HGW.out HFR.out.1
  obtain ⟨g0, g1, g2, g3⟩ := cells4 HWG.out
  have HV5 : Hid (IsC wG v4 (inR J)) := HV4.out.keeps HKG.out (fun k hk => HFR.out.2.1 k (.inl hk)) (fun k hk => HFR.out.2.1 k (.inr hk))
  have HB5 : Hid (IsC wG b1 (inR J)) := HB1.out.keeps HKG.out (fun k hk => HFR.out.2.2.1 k (.inl hk)) (fun k hk => HFR.out.2.2.1 k (.inr hk))
  have q0' := HKG.out.cell HQ.out.1 HFR.out.2.2.2
  have q1 := HKG.out.cell HQ.out.2.1 HFR.out.2.2.2
  have q2 := HKG.out.cell HQ.out.2.2.1 HFR.out.2.2.2
  have q3 := HKG.out.cell HQ.out.2.2.2 HFR.out.2.2.2
  obtain ⟨gG, hoG, hcG⟩ := HSG.out.own.atC0 (by rw [HSG.out.len]; exact Nat.zero_lt_succ _)
  subst hoG
  obtain ⟨d0, d1, d2, d3⟩ := hcG 0 (by rw [HSG.out.len]; exact Nat.zero_lt_succ _)
  have HCG : Hid (IsC wG (vG.getD 0 cv0) (inR J)) := (HSG.out.each 0 (Nat.zero_lt_succ _)).isC
  generalize vG.getD 0 cv0 = c9 at d0 d1 d2 d3 HCG
  simp only [Nat.zero_mul, Nat.zero_add] at d0 d1 d2 d3
  have y0 := cell_regrown d0
  have y1 := cell_regrown d1
  have y2 := cell_regrown d2
  have y3 := cell_regrown d3
  have z0 := cell_regrown g0
  have z1 := cell_regrown g1
  have z2 := cell_regrown g2
  have z3 := cell_regrown g3
  have x0' := cell_regrown q0'
  have x1' := cell_regrown q1
  have x2' := cell_regrown q2
  have x3' := cell_regrown q3
  have cS1 := same_grown (W := wG) (v := c9) (v' := v4) (r := inR J) (fun X hX => ⟨HCG.out.keepsN hX, HV5.out.keepsN hX⟩)
  have cS2 := same_grown (W := wG) (v := b1) (v' := v4) (r := inR J) (fun X hX => ⟨HB5.out.keepsN hX, HV5.out.keepsN hX⟩)
  clear hcG hmG
  go_wp2_with fail
  refine wp_region_quiet_below (by kernel_rfl) (by kernel_rfl) ?_
  repeat (go_big_quiet_step (first | (go_at_call_of 18 (Value.agg #[Value.int .i64 c9.k, Value.int .u64 (c9.i : Nat), Value.slice c9.op c9.np c9.cp, Value.slice c9.ok c9.nk c9.ck]); exact cS1 _ _) | (go_at_call_of 18 (Value.agg #[Value.int .i64 b1.k, Value.int .u64 (b1.i : Nat), Value.slice b1.op b1.np b1.cp, Value.slice b1.ok b1.nk b1.ck]); exact cS2 _ _)))
  refine wpQuiet_nil ?_
  intro _ hw'
  obtain ⟨⟨dq', osq'⟩, rfl⟩ := hw'
  have K1 : Hid (Keeps no wG (Sort.grow (redrawn wG dq') osq')) := keeps_grown ..
  generalize Sort.grow (redrawn wG dq') osq' = u9 at K1 ⊢
  clear y0 y1 y2 y3 z0 z1 z2 z3 x0' x1' x2' x3' cS1 cS2 d0 d1 d2 d3 g0 g1 g2 g3 q0' q1 q2 q3
  go_wp2_with fail
  go_ret
  exact ⟨rfl, (HK1.out.trans HN0.out).trans K1.out⟩
end Go.Proofs.YtgamhblkgojapaaDoor
