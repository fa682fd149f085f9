/- WalMemory: its fourth loop; all of it -/
import Derived.Test.YtgamhblkgojapaaDoorGM8a
import Derived.Test.YtgamhblkgojapaaDoorGM8b
import Derived.Test.YtgamhblkgojapaaDoorGM8c
import Derived.Test.YtgamhblkgojapaaDoorGM8e
import Derived.Test.YtgamhblkgojapaaDoorGM8f
import Derived.Test.YtgamhblkgojapaaDoorGM8k
import Derived.Deep.RegionHeldLaw
import Derived.Deep.Light
namespace Go.Proofs.YtgamhblkgojapaaDoor
open Go.RowKit Pk Dk
set_option linter.unusedVariables false
set_option linter.unusedSimpArgs false

set_option maxRecDepth 10000 in
set_option maxHeartbeats 4000000 in
theorem memC_any : MemC := by
  intro w x J ID Q_i1 w1 HK1 HT w2 p F0 w3 q0 o3 c3 vs3 V gI gF gP gK w4 v4 w5 gW w6 F1 w7 w8 F2 w9 wA HGD HLN wB qA cA vA wC qB cB vB gA a1 dq osq u1 wE qE oE cE vE wF gB b1 HFR gL W0 T HRS HDUO wc1 u21 u22 u167 u168 u169 u170 u171 u172 u173 u174 u175 u176 u177 u178 u179 u180 u181 u182 u183 u184 u185 u186 u187 u188 u189 u190 u191 u192 u193 u194 u195 u196 u197 u198 u199 u200 u201 u202 u203 S1 x1 HD1 HF1 wc2 u23 u24 u204 u205 u206 u207 u208 u209 u210 u211 u212 u213 u214 u215 u216 u217 u218 u219 u220 u221 u222 u223 u224 u225 u226 u227 u228 u229 u230 u231 u232 u233 u234 u235 u236 u237 u238 u239 u240 u241 u242 u243 u244 u245 u246 u247 u248 u249 u250 u251 u252 S2 x2 HD2 HF2 K_j164 a_j165 wc3 u25 u253 u254 u255 u256 u257 u258 u259 u260 u261 u262 u263 u264 u265 u266 u267 u268 u269 u270 u271 S3 x3 HD3 HF3
  go_upto_block 10 with fail
  go_cut [26] from 272 to 375 (fun _ wc => Hid (Duo W0 T gL S3 x3 wc))
  case first =>
    go_wp2_with fail
    go_loopw [26] (fun i wr => ∃ (I : Nat), i = .int .i64 (I : Nat) ∧ (I : Int) ≤ 2 ∧ Hid (Duo W0 T gL S3 x3 wr)) (fun i _ => 2 - (intOf i).toNat)
    case atStart => go_light; exact ⟨0, rfl, by omega, HD3⟩
    case round =>
      rename World => wr
      obtain ⟨I, rfl, hI, HDr⟩ := hrel
      clear HD3
      by_cases hI2 : (I : Int) < 2
      · have HI1 : Hid (I < 2) := (by omega : I < 2)
        have htl := HF3.out.tl I HI1.out
        obtain ⟨Q, hQ⟩ : ∃ Q : Nat, Q = (11 + I) * 65536 := ⟨_, rfl⟩
        rw [show tI 2 I = [cqV Q, cqV Q] by unfold tI; rw [if_pos HI1.out, hQ]; rfl] at htl
        have HTL : Hid ((x3 I).tl = [cqV Q, cqV Q] ∧ Q = (11 + I) * 65536) := ⟨htl, hQ⟩
        have HLEN : Hid ((x3 I).ks.length = 42 ∧ (x3 I).ps.length = 42) := HF3.out.len I HI1.out
        obtain ⟨g, hg, hSg, c0, d0, d1, d2, d3, e0', e1, e2, e3⟩ := HDr.out.at HI1.out
        rw [htl] at c0
        simp only [List.length_cons, List.length_nil, Nat.zero_add, Nat.reduceAdd] at c0
        have HG : Hid ((x3 I).o = some ⟨g, 0, none⟩) := hg
        clear hg hSg htl hQ e0' e1 e2 e3
        go_upto_region 49 with fail
        have HR0 : Hid _ := blk_new wr (.cells #[.int .i64 (x3 I).v.k, .int .u64 ((x3 I).v.i : Nat), .slice (x3 I).v.op (x3 I).v.np (x3 I).v.cp, .slice (x3 I).v.ok (x3 I).v.nk (x3 I).v.ck] 28)
        have HD0 : Hid (Duo W0 T gL S3 x3 (wr.alloc (.cells #[.int .i64 (x3 I).v.k, .int .u64 ((x3 I).v.i : Nat), .slice (x3 I).v.op (x3 I).v.np (x3 I).v.cp, .slice (x3 I).v.ok (x3 I).v.nk (x3 I).v.ck] 28))) := HDr.out.keepsN ((Keeps.refl no wr).alloc _)
        generalize wr.alloc (.cells #[.int .i64 (x3 I).v.k, .int .u64 ((x3 I).v.i : Nat), .slice (x3 I).v.op (x3 I).v.np (x3 I).v.cp, .slice (x3 I).v.ok (x3 I).v.nk (x3 I).v.ck] 28) = ws at HR0 HD0 ⊢
        generalize wr.heap.size = gR at HR0 ⊢
        clear c0 d0 d1 d2 d3 HDr
        go_upto_block 12 with fail
        go_cut [28] from 282 to 345 (fun _ wc => Hid (Duo W0 T gL S3 x3 wc))
        case first =>
          go_wp2_with fail
          go_loopw [28] (fun k wk => ∃ (K : Nat), k = .int .i64 (K : Nat) ∧ (K : Int) ≤ 42 ∧ Hid (Duo W0 T gL S3 x3 wk) ∧ Hid (wk.heap[gR]? = some (.cells #[.int .i64 (x3 I).v.k, .int .u64 ((x3 I).v.i : Nat), .slice (x3 I).v.op (x3 I).v.np (x3 I).v.cp, .slice (x3 I).v.ok (x3 I).v.nk (x3 I).v.ck] 28 (0, 0)))) (fun k _ => 42 - (intOf k).toNat)
          case atStart => go_light; exact ⟨0, rfl, by omega, HD0, HR0⟩
          case round =>
            rename World => wk
            obtain ⟨K, rfl, hK, HD, HR⟩ := hrel
            clear HD0 HR0
            by_cases hK4 : (K : Int) < 42
            · have HI2 : Hid (I < 2 ∧ K < 42) := ⟨by omega, by omega⟩
              by_cases hK2 : (K : Int) < 2
              · have hn2 : ¬ (2 : Int) ≤ K := by omega
                have hd1 : decide ((K : Int) < 2) = true := decide_eq_true hK2
                have hd2 : decide ((2 : Int) ≤ K) = false := decide_eq_false hn2
                obtain ⟨bk, fk, hbk, y1⟩ := HD.out.key HI2.out.1 (q := K) (by rw [HLEN.out.1]; have := HI2.out; omega)
                obtain ⟨bp, fp, hbp, y2, y3⟩ := HD.out.pair HI2.out.1 (q := K) (by rw [HLEN.out.2]; have := HI2.out; omega)
                obtain ⟨B, hB⟩ : ∃ B : Nat, B = 33 + I := ⟨_, rfl⟩
                have hts := HF3.out.lo I HI2.out.1 K (by omega)
                rw [← hB] at hts
                rw [hts.1] at y1
                rw [hts.2] at y3
                have HB : Hid (B < 256) := (by omega : B < 256)
                have hw1 : IntKind.i64.wrap (33 + (I : Int)) = 33 + (I : Int) := by rw [IntKind.wrap_i64]; omega
                have hw2 : IntKind.u8.wrap (33 + (I : Int)) = (B : Int) := by rw [IntKind.wrap_u8]; omega
                have r2 := cell_of_blk HR.out 2
                have r3 := cell_of_blk HR.out 3
                simp only [List.getElem?_toArray, List.getElem?_cons_zero, List.getElem?_cons_succ] at r2 r3
                rw [hbp, (HD.out.b I HI2.out.1).np, HLEN.out.2] at r2
                rw [hbk, (HD.out.b I HI2.out.1).nk, HLEN.out.1] at r3
                obtain ⟨cpI, hcp⟩ : ∃ cpI, cpI = (x3 I).v.cp := ⟨_, rfl⟩
                obtain ⟨ckI, hck⟩ : ∃ ckI, ckI = (x3 I).v.ck := ⟨_, rfl⟩
                rw [← hcp] at r2
                rw [← hck] at r3
                have HDX : Hid (Duo W0 T gL S3 x3 ((wk.alloc (.cells #[.int .u8 (B : Int)] 5)).drew)) := HD.out.keepsN (((Keeps.refl no wk).alloc _).drew)
                have HRX : Hid _ := (((Keeps.refl no wk).alloc (.cells #[.int .u8 (B : Int)] 5)).drew).at HR.out (fun h => h)
                clear hB hts hbk hbp hcp hck y2
                go_wp2_with fail
                rename_i K_j188 a_j189 J_j190 K_j191 a_j192 a_j193 u_j195 u_j208 u_j209 u_j210 u_j211 u_j212 u_j213 u_j214 u_j215 u_j216 u_j217 u_j218 u_j219 u_j220 u_j221 u_j222 u_j223 u_j224 u_j225 u_j226 u_j227 u_j228 u_j229 u_j230 u_j231 u_j232 u_j233 u_j234 u_j235 u_j236 u_j237 u_j238 u_j239 u_j240 u_j241 u_j242 u_j243 u_j244 u_j245 u_j246 u_j247 u_j248 u_j249 u_j250 u_j251 u_j252 u_j253 u_j254 u_j255 u_j256 u_j257 u_j258 u_j259 u_j260 u_j261 u_j262 u_j263 u_j264 u_j265 u_j266 u_j267 u_j268 u_j269 u_j270 u_j271 Q_j311 K_j312 a_j313 K_j314 a_j315 J_j318 K_j319 a_j320 a_j321 Q_j413 K_j414 a_j415 K_j416 a_j417
                revert w x J ID Q_i1 w1 HK1 HT w2 p F0 w3 q0 o3 c3 vs3 V gI gF gP gK w4 v4 w5 gW w6 F1 w7 w8 F2 w9 wA HGD HLN wB qA cA vA wC qB cB vB gA a1 dq osq u1 wE qE oE cE vE wF gB b1 HFR gL W0 T HRS HDUO wc1 u21 u22 u167 u168 u169 u170 u171 u172 u173 u174 u175 u176 u177 u178 u179 u180 u181 u182 u183 u184 u185 u186 u187 u188 u189 u190 u191 u192 u193 u194 u195 u196 u197 u198 u199 u200 u201 u202 u203 S1 x1 HD1 HF1 wc2 u23 u24 u204 u205 u206 u207 u208 u209 u210 u211 u212 u213 u214 u215 u216 u217 u218 u219 u220 u221 u222 u223 u224 u225 u226 u227 u228 u229 u230 u231 u232 u233 u234 u235 u236 u237 u238 u239 u240 u241 u242 u243 u244 u245 u246 u247 u248 u249 u250 u251 u252 S2 x2 HD2 HF2 wc3 u25 u253 u254 u255 u256 u257 u258 u259 u260 u261 u262 u263 u264 u265 u266 u267 u268 u269 u270 u271 S3 x3 HF3 K_j188 a_j189 J_j190 K_j191 a_j192 a_j193 wr u_j195 u27 u28 u272 u273 u274 u275 u276 u277 u278 u279 u280 u281 u_j208 u_j209 u_j210 u_j211 u_j212 u_j213 u_j214 u_j215 u_j216 u_j217 u_j218 u_j219 u_j220 u_j221 u_j222 u_j223 u_j224 u_j225 u_j226 u_j227 u_j228 u_j229 u_j230 u_j231 u_j232 u_j233 u_j234 u_j235 u_j236 u_j237 u_j238 u_j239 u_j240 u_j241 u_j242 u_j243 u_j244 u_j245 u_j246 u_j247 u_j248 u_j249 u_j250 u_j251 u_j252 u_j253 u_j254 u_j255 u_j256 u_j257 u_j258 u_j259 u_j260 u_j261 u_j262 u_j263 u_j264 u_j265 u_j266 u_j267 u_j268 u_j269 u_j270 u_j271 u346 u347 u348 u349 u350 u351 u352 u353 u354 u355 u356 u357 u358 u359 u360 u361 u362 u363 u364 u365 u366 u367 u368 u369 u370 u371 u372 u373 u374 u375 I hI hI2 HI1 Q HTL HLEN g HG Q_j311 K_j312 a_j313 K_j314 a_j315 ws gR J_j318 K_j319 a_j320 a_j321 wk u2 u282 u283 u284 u285 u286 u287 u288 u289 u290 u291 u292 u293 u294 u295 u296 u297 u298 u299 u300 u301 u302 u303 u304 u305 u306 u307 u308 u309 u310 u311 u312 u313 u314 u315 u316 u317 u318 u319 u320 u321 u322 u323 u324 u325 u326 u327 u328 u329 u330 u331 u332 u333 u334 u335 u336 u337 u338 u339 u340 u341 u342 u343 u344 u345 K hK HD HR hK4 HI2 hK2 hd1 hd2 bk fk bp fp B y3 y1 HB hw1 hw2 cpI r2 ckI r3 HDX HRX Q_j413 K_j414 a_j415 K_j416 a_j417 hn2
                exact lo52
              · have hn2 : (2 : Int) ≤ K := by omega
                have hd1 : decide ((K : Int) < 2) = false := decide_eq_false hK2
                have hd2 : decide ((2 : Int) ≤ K) = true := decide_eq_true hn2
                obtain ⟨bk, fk, hbk, y1⟩ := HD.out.key HI2.out.1 (q := K) (by rw [HLEN.out.1]; have := HI2.out; omega)
                obtain ⟨bp, fp, hbp, y2, y3⟩ := HD.out.pair HI2.out.1 (q := K) (by rw [HLEN.out.2]; have := HI2.out; omega)
                obtain ⟨B, hB⟩ : ∃ B : Nat, B = 97 + I := ⟨_, rfl⟩
                have hts := HF3.out.hi I HI2.out.1 K (by omega) (by omega)
                rw [← hB] at hts
                rw [hts.1] at y1
                rw [hts.2] at y2
                have HB : Hid (B < 256) := (by omega : B < 256)
                have hw1 : IntKind.i64.wrap (97 + (I : Int)) = 97 + (I : Int) := by rw [IntKind.wrap_i64]; omega
                have hw2 : IntKind.u8.wrap (97 + (I : Int)) = (B : Int) := by rw [IntKind.wrap_u8]; omega
                have r2 := cell_of_blk HR.out 2
                have r3 := cell_of_blk HR.out 3
                simp only [List.getElem?_toArray, List.getElem?_cons_zero, List.getElem?_cons_succ] at r2 r3
                rw [hbp, (HD.out.b I HI2.out.1).np, HLEN.out.2] at r2
                rw [hbk, (HD.out.b I HI2.out.1).nk, HLEN.out.1] at r3
                obtain ⟨cpI, hcp⟩ : ∃ cpI, cpI = (x3 I).v.cp := ⟨_, rfl⟩
                obtain ⟨ckI, hck⟩ : ∃ ckI, ckI = (x3 I).v.ck := ⟨_, rfl⟩
                rw [← hcp] at r2
                rw [← hck] at r3
                have HDX : Hid (Duo W0 T gL S3 x3 ((wk.alloc (.cells #[.int .u8 (B : Int)] 5)).drew)) := HD.out.keepsN (((Keeps.refl no wk).alloc _).drew)
                have HRX : Hid _ := (((Keeps.refl no wk).alloc (.cells #[.int .u8 (B : Int)] 5)).drew).at HR.out (fun h => h)
                clear hB hts hbk hbp hcp hck y3
                go_wp2_with fail
                rename_i K_j188 a_j189 J_j190 K_j191 a_j192 a_j193 u_j195 u_j208 u_j209 u_j210 u_j211 u_j212 u_j213 u_j214 u_j215 u_j216 u_j217 u_j218 u_j219 u_j220 u_j221 u_j222 u_j223 u_j224 u_j225 u_j226 u_j227 u_j228 u_j229 u_j230 u_j231 u_j232 u_j233 u_j234 u_j235 u_j236 u_j237 u_j238 u_j239 u_j240 u_j241 u_j242 u_j243 u_j244 u_j245 u_j246 u_j247 u_j248 u_j249 u_j250 u_j251 u_j252 u_j253 u_j254 u_j255 u_j256 u_j257 u_j258 u_j259 u_j260 u_j261 u_j262 u_j263 u_j264 u_j265 u_j266 u_j267 u_j268 u_j269 u_j270 u_j271 Q_j311 K_j312 a_j313 K_j314 a_j315 J_j318 K_j319 a_j320 a_j321 Q_j413 K_j414 a_j415 K_j416 a_j417
                revert w x J ID Q_i1 w1 HK1 HT w2 p F0 w3 q0 o3 c3 vs3 V gI gF gP gK w4 v4 w5 gW w6 F1 w7 w8 F2 w9 wA HGD HLN wB qA cA vA wC qB cB vB gA a1 dq osq u1 wE qE oE cE vE wF gB b1 HFR gL W0 T HRS HDUO wc1 u21 u22 u167 u168 u169 u170 u171 u172 u173 u174 u175 u176 u177 u178 u179 u180 u181 u182 u183 u184 u185 u186 u187 u188 u189 u190 u191 u192 u193 u194 u195 u196 u197 u198 u199 u200 u201 u202 u203 S1 x1 HD1 HF1 wc2 u23 u24 u204 u205 u206 u207 u208 u209 u210 u211 u212 u213 u214 u215 u216 u217 u218 u219 u220 u221 u222 u223 u224 u225 u226 u227 u228 u229 u230 u231 u232 u233 u234 u235 u236 u237 u238 u239 u240 u241 u242 u243 u244 u245 u246 u247 u248 u249 u250 u251 u252 S2 x2 HD2 HF2 wc3 u25 u253 u254 u255 u256 u257 u258 u259 u260 u261 u262 u263 u264 u265 u266 u267 u268 u269 u270 u271 S3 x3 HF3 K_j188 a_j189 J_j190 K_j191 a_j192 a_j193 wr u_j195 u27 u28 u272 u273 u274 u275 u276 u277 u278 u279 u280 u281 u_j208 u_j209 u_j210 u_j211 u_j212 u_j213 u_j214 u_j215 u_j216 u_j217 u_j218 u_j219 u_j220 u_j221 u_j222 u_j223 u_j224 u_j225 u_j226 u_j227 u_j228 u_j229 u_j230 u_j231 u_j232 u_j233 u_j234 u_j235 u_j236 u_j237 u_j238 u_j239 u_j240 u_j241 u_j242 u_j243 u_j244 u_j245 u_j246 u_j247 u_j248 u_j249 u_j250 u_j251 u_j252 u_j253 u_j254 u_j255 u_j256 u_j257 u_j258 u_j259 u_j260 u_j261 u_j262 u_j263 u_j264 u_j265 u_j266 u_j267 u_j268 u_j269 u_j270 u_j271 u346 u347 u348 u349 u350 u351 u352 u353 u354 u355 u356 u357 u358 u359 u360 u361 u362 u363 u364 u365 u366 u367 u368 u369 u370 u371 u372 u373 u374 u375 I hI hI2 HI1 Q HTL HLEN g HG Q_j311 K_j312 a_j313 K_j314 a_j315 ws gR J_j318 K_j319 a_j320 a_j321 wk u2 u282 u283 u284 u285 u286 u287 u288 u289 u290 u291 u292 u293 u294 u295 u296 u297 u298 u299 u300 u301 u302 u303 u304 u305 u306 u307 u308 u309 u310 u311 u312 u313 u314 u315 u316 u317 u318 u319 u320 u321 u322 u323 u324 u325 u326 u327 u328 u329 u330 u331 u332 u333 u334 u335 u336 u337 u338 u339 u340 u341 u342 u343 u344 u345 K hK HD HR hK4 HI2 hn2 hd1 hd2 bk fk bp fp B y2 y1 HB hw1 hw2 cpI r2 ckI r3 HDX HRX Q_j413 K_j414 a_j415 K_j416 a_j417 hK2
                exact hi52
            · go_wp2_with fail
              go_meet
              go_light
              exact HD
        case rest =>
          rename World => wt
          have HDt : Hid (Duo W0 T gL S3 x3 wt) := hcut
          clear hcut HD0 HR0
          rename_i K_j188 a_j189 J_j190 K_j191 a_j192 a_j193 u_j195 u_j197 u_j208 u_j209 u_j210 u_j211 u_j212 u_j213 u_j214 u_j215 u_j216 u_j217 u_j218 u_j219 u_j220 u_j221 u_j222 u_j223 u_j224 u_j225 u_j226 u_j227 u_j228 u_j229 u_j230 u_j231 u_j232 u_j233 u_j234 u_j235 u_j236 u_j237 u_j238 u_j239 u_j240 u_j241 u_j242 u_j243 u_j244 u_j245 u_j246 u_j247 u_j248 u_j249 u_j250 u_j251 u_j252 u_j253 u_j254 u_j255 u_j256 u_j257 u_j258 u_j259 u_j260 u_j261 u_j262 u_j263 u_j264 u_j265 u_j266 u_j267 u_j268 u_j269 u_j270 u_j271 Q_j311 K_j312 a_j313 K_j314 a_j315
          revert w x J ID Q_i1 w1 HK1 HT w2 p F0 w3 q0 o3 c3 vs3 V gI gF gP gK w4 v4 w5 gW w6 F1 w7 w8 F2 w9 wA HGD HLN wB qA cA vA wC qB cB vB gA a1 dq osq u1 wE qE oE cE vE wF gB b1 HFR gL W0 T HRS HDUO wc1 u21 u22 u167 u168 u169 u170 u171 u172 u173 u174 u175 u176 u177 u178 u179 u180 u181 u182 u183 u184 u185 u186 u187 u188 u189 u190 u191 u192 u193 u194 u195 u196 u197 u198 u199 u200 u201 u202 u203 S1 x1 HD1 HF1 wc2 u23 u24 u204 u205 u206 u207 u208 u209 u210 u211 u212 u213 u214 u215 u216 u217 u218 u219 u220 u221 u222 u223 u224 u225 u226 u227 u228 u229 u230 u231 u232 u233 u234 u235 u236 u237 u238 u239 u240 u241 u242 u243 u244 u245 u246 u247 u248 u249 u250 u251 u252 S2 x2 HD2 HF2 wc3 u25 u253 u254 u255 u256 u257 u258 u259 u260 u261 u262 u263 u264 u265 u266 u267 u268 u269 u270 u271 S3 x3 HF3 K_j188 a_j189 J_j190 K_j191 a_j192 a_j193 wr u_j195 u27 u_j197 u272 u273 u274 u275 u276 u277 u278 u279 u280 u281 u_j208 u_j209 u_j210 u_j211 u_j212 u_j213 u_j214 u_j215 u_j216 u_j217 u_j218 u_j219 u_j220 u_j221 u_j222 u_j223 u_j224 u_j225 u_j226 u_j227 u_j228 u_j229 u_j230 u_j231 u_j232 u_j233 u_j234 u_j235 u_j236 u_j237 u_j238 u_j239 u_j240 u_j241 u_j242 u_j243 u_j244 u_j245 u_j246 u_j247 u_j248 u_j249 u_j250 u_j251 u_j252 u_j253 u_j254 u_j255 u_j256 u_j257 u_j258 u_j259 u_j260 u_j261 u_j262 u_j263 u_j264 u_j265 u_j266 u_j267 u_j268 u_j269 u_j270 u_j271 u346 u347 u348 u349 u350 u351 u352 u353 u354 u355 u356 u357 u358 u359 u360 u361 u362 u363 u364 u365 u366 u367 u368 u369 u370 u371 u372 u373 u374 u375 I hI hI2 HI1 Q HTL HLEN g HG Q_j311 K_j312 a_j313 K_j314 a_j315 ws gR wt u2 u28 u282 u283 u284 u285 u286 u287 u288 u289 u290 u291 u292 u293 u294 u295 u296 u297 u298 u299 u300 u301 u302 u303 u304 u305 u306 u307 u308 u309 u310 u311 u312 u313 u314 u315 u316 u317 u318 u319 u320 u321 u322 u323 u324 u325 u326 u327 u328 u329 u330 u331 u332 u333 u334 u335 u336 u337 u338 u339 u340 u341 u342 u343 u344 u345 HDt
          exact r54
      · go_wp2_with fail
        go_meet
        go_light
        exact HDr
  case rest =>
    rename World => wc4
    have HD4 : Hid (Duo W0 T gL S3 x3 wc4) := hcut
    clear hcut HD3
    rename_i K_j188 a_j189
    revert w x J ID Q_i1 w1 HK1 HT w2 p F0 w3 q0 o3 c3 vs3 V gI gF gP gK w4 v4 w5 gW w6 F1 w7 w8 F2 w9 wA HGD HLN wB qA cA vA wC qB cB vB gA a1 dq osq u1 wE qE oE cE vE wF gB b1 HFR gL W0 T HRS HDUO wc1 u21 u22 u167 u168 u169 u170 u171 u172 u173 u174 u175 u176 u177 u178 u179 u180 u181 u182 u183 u184 u185 u186 u187 u188 u189 u190 u191 u192 u193 u194 u195 u196 u197 u198 u199 u200 u201 u202 u203 S1 x1 HD1 HF1 wc2 u23 u24 u204 u205 u206 u207 u208 u209 u210 u211 u212 u213 u214 u215 u216 u217 u218 u219 u220 u221 u222 u223 u224 u225 u226 u227 u228 u229 u230 u231 u232 u233 u234 u235 u236 u237 u238 u239 u240 u241 u242 u243 u244 u245 u246 u247 u248 u249 u250 u251 u252 S2 x2 HD2 HF2 wc3 u25 u253 u254 u255 u256 u257 u258 u259 u260 u261 u262 u263 u264 u265 u266 u267 u268 u269 u270 u271 S3 x3 HF3 K_j188 a_j189 wc4 u2 u26 u27 u28 u272 u273 u274 u275 u276 u277 u278 u279 u280 u281 u282 u283 u284 u285 u286 u287 u288 u289 u290 u291 u292 u293 u294 u295 u296 u297 u298 u299 u300 u301 u302 u303 u304 u305 u306 u307 u308 u309 u310 u311 u312 u313 u314 u315 u316 u317 u318 u319 u320 u321 u322 u323 u324 u325 u326 u327 u328 u329 u330 u331 u332 u333 u334 u335 u336 u337 u338 u339 u340 u341 u342 u343 u344 u345 u346 u347 u348 u349 u350 u351 u352 u353 u354 u355 u356 u357 u358 u359 u360 u361 u362 u363 u364 u365 u366 u367 u368 u369 u370 u371 u372 u373 u374 u375 HD4
    exact memD
theorem memTail_any : MemTail := memTail_of (memA_of (memB_of memC_any))
end Go.Proofs.YtgamhblkgojapaaDoor
