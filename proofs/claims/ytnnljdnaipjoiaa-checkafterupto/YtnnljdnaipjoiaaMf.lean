/- The document's Saw: the loop over a fetch's batches, sents. -/
import Derived.Test.YtnnljdnaipjoiaaMe
import Derived.Test.YtnnljdnaipjoiaaLat
namespace Go.Proofs.Ytnnljdnaipjoiaa
set_option linter.unusedSimpArgs false
set_option linter.unusedVariables false
open Go.RowKit Go.MapKept
set_option maxHeartbeats 8000000 in
set_option maxRecDepth 1000000 in
theorem si_loop {B p : Nat} {w : World} {vF vS vP : Value} {FL : List (SK × Rc)} {SL : List (TK × Int)} {PL : List (PK × (Int × Int))} {S : LS} {vf : Value} {L : List (SK × Rc)} {f : SK → Option Rc} {tp : ByteArray} {pt : Int} {a : Option Addr} {cap : Nat} {ss : List Bs} {vc : Value} {M0 : List (TK × Int)} {g0 : TK → Option Int} {W : World}
    (hF : SSt B w p vF vS vP FL SL PL S vf L f ([]) (vc) M0 g0 W) (hBw : B ≤ w.heap.size) (hi : ∀ y, MKeep B w y → BIn y a ss) (hcnt : SL.length + (batKs (tp, pt) (bsOf ss)).length ≤ 1000000)
    {Q : Exit → Act → World → Prop} {c0 c3 c4 c5 c7 c8 c9 c10 c11 c12 c13 c15 c16 c19 c20 c21 c22 c23 c24 c29 c30 c31 c32 c33 c34 c35 c36 c37 c38 c39 c40 c41 c42 c43 c44 c45 c46 c47 c48 c49 c50 c51 c52 c53 c54 c55 c56 c57 c58 c59 c60 c61 c62 c63 c64 c65 c66 c67 c68 c69 c70 c71 c72 c73 c74 c75 c76 c77 c78 c79 c80 c81 c82 c83 c84 c85 c86 c87 c88 c89 c90 c91 c92 c93 c94 c95 c96 c97 c98 c99 c100 c101 c102 c103 c104 c105 c106 c107 c108 c109 c110 c111 c112 c113 c114 c115 c116 c117 c118 c119 c120 c121 c122 c123 c124 c125 c126 c127 c128 c129 c130 c131 c132 c133 c134 c135 c136 c137 c138 c139 c140 c141 c142 c143 c144 c145 c146 c147 c148 c149 c150 c151 c152 c153 c154 c155 c156 c157 c158 c159 c160 c161 c162 c163 c164 c165 c166 c167 c168 c169 c170 c171 c172 c173 c174 c175 c176 c177 c178 c179 c180 c181 c182 c183 c184 c185 c186 c187 c188 c189 c273 c274 c275 c276 c277 c278 c279 c280 c281 c282 c283 c284 c285 c286 c287 c288 c289 c290 c291 c292 c293 c294 c295 c296 c297 c298 c299 c300 c301 c302 c303 c304 c305 c306 c307 c308 c309 c310 c311 c312 : Value} {d14 d26 d27 d28 d190 d191 d192 d193 d194 d195 d196 d197 d198 d199 d200 d201 d202 d203 d204 d205 d206 d207 d208 d209 d210 d211 d212 d213 d214 d215 d216 d217 d218 d219 d220 d221 d222 d223 d224 d225 d226 d227 d228 d229 d230 d231 d232 d233 d234 d235 d236 d237 d238 d239 d240 d241 d242 d243 d244 d245 d246 d247 d248 d249 d250 d251 d252 d253 d254 d255 d256 d257 d258 d259 d260 d261 d262 d263 d264 d265 d266 d267 d268 d269 d270 d271 d272 : Value} (HPN : Hid (∀ c (a : Act) d v w, Q (.panic c) (a.put d v) w → Q (.panic c) a w))
    (HX : Hid (∀ (v14 v25 v26 v27 v28 v190 v191 v192 v193 v194 v195 v196 v197 v198 v199 v200 v201 v202 v203 v204 v205 v206 v207 v208 v209 v210 v211 v212 v213 v214 v215 v216 v217 v218 v219 v220 v221 v222 v223 v224 v225 v226 v227 v228 v229 v230 v231 v232 v233 v234 v235 v236 v237 v238 v239 v240 v241 v242 v243 v244 v245 v246 v247 v248 v249 v250 v251 v252 v253 v254 v255 v256 v257 v258 v259 v260 v261 v262 v263 v264 v265 v266 v267 v268 v269 v270 v271 v272 v' : Value) (M : List (TK × Int)) (g : TK → Option Int) (y : World), SSt B w p vF vS vP FL SL PL S vf L f (batKs (tp, pt) (bsOf ss)) (v') M g y → Q (.exit 8) ⟨(c0 :: .string tp :: .int .i64 pt :: c3 :: c4 :: c5 :: .slice a ss.length cap :: c7 :: c8 :: c9 :: c10 :: c11 :: c12 :: c13 :: v14 :: c15 :: c16 :: vf :: v' :: c19 :: c20 :: c21 :: c22 :: c23 :: c24 :: v25 :: v26 :: v27 :: v28 :: c29 :: c30 :: c31 :: c32 :: c33 :: c34 :: c35 :: c36 :: c37 :: c38 :: c39 :: c40 :: c41 :: c42 :: c43 :: c44 :: c45 :: c46 :: c47 :: c48 :: c49 :: c50 :: c51 :: c52 :: c53 :: c54 :: c55 :: c56 :: c57 :: c58 :: c59 :: c60 :: c61 :: c62 :: c63 :: c64 :: c65 :: c66 :: c67 :: c68 :: c69 :: c70 :: c71 :: c72 :: c73 :: c74 :: c75 :: c76 :: c77 :: c78 :: c79 :: c80 :: c81 :: c82 :: c83 :: c84 :: c85 :: c86 :: c87 :: c88 :: c89 :: c90 :: c91 :: c92 :: c93 :: c94 :: c95 :: c96 :: c97 :: c98 :: c99 :: c100 :: c101 :: c102 :: c103 :: c104 :: c105 :: c106 :: c107 :: c108 :: c109 :: c110 :: c111 :: c112 :: c113 :: c114 :: c115 :: c116 :: c117 :: c118 :: c119 :: c120 :: c121 :: c122 :: c123 :: c124 :: c125 :: c126 :: c127 :: c128 :: c129 :: c130 :: c131 :: c132 :: c133 :: c134 :: c135 :: c136 :: c137 :: c138 :: c139 :: c140 :: c141 :: c142 :: c143 :: c144 :: c145 :: c146 :: c147 :: c148 :: c149 :: c150 :: c151 :: c152 :: c153 :: c154 :: c155 :: c156 :: c157 :: c158 :: c159 :: c160 :: c161 :: c162 :: c163 :: c164 :: c165 :: c166 :: c167 :: c168 :: c169 :: c170 :: c171 :: c172 :: c173 :: c174 :: c175 :: c176 :: c177 :: c178 :: c179 :: c180 :: c181 :: c182 :: c183 :: c184 :: c185 :: c186 :: c187 :: c188 :: c189 :: v190 :: v191 :: v192 :: v193 :: v194 :: v195 :: v196 :: v197 :: v198 :: v199 :: v200 :: v201 :: v202 :: v203 :: v204 :: v205 :: v206 :: v207 :: v208 :: v209 :: v210 :: v211 :: v212 :: v213 :: v214 :: v215 :: v216 :: v217 :: v218 :: v219 :: v220 :: v221 :: v222 :: v223 :: v224 :: v225 :: v226 :: v227 :: v228 :: v229 :: v230 :: v231 :: v232 :: v233 :: v234 :: v235 :: v236 :: v237 :: v238 :: v239 :: v240 :: v241 :: v242 :: v243 :: v244 :: v245 :: v246 :: v247 :: v248 :: v249 :: v250 :: v251 :: v252 :: v253 :: v254 :: v255 :: v256 :: v257 :: v258 :: v259 :: v260 :: v261 :: v262 :: v263 :: v264 :: v265 :: v266 :: v267 :: v268 :: v269 :: v270 :: v271 :: v272 :: c273 :: c274 :: c275 :: c276 :: c277 :: c278 :: c279 :: c280 :: c281 :: c282 :: c283 :: c284 :: c285 :: c286 :: c287 :: c288 :: c289 :: c290 :: c291 :: c292 :: c293 :: c294 :: c295 :: c296 :: c297 :: c298 :: c299 :: c300 :: c301 :: c302 :: c303 :: c304 :: c305 :: c306 :: c307 :: c308 :: c309 :: c310 :: c311 :: c312 :: []).toArray, []⟩ y))
    (HR : Hid (∀ (v18 v25 v26 v27 v28 v190 v191 v192 v193 v194 v195 v196 v197 v198 v199 v200 v201 v202 v203 v204 v205 v206 v207 v208 v209 v210 v211 v212 v213 v214 v215 v216 v217 v218 v219 v220 v221 v222 v223 v224 v225 v226 v227 v228 v229 v230 v231 v232 v233 v234 v235 v236 v237 v238 v239 v240 v241 v242 v243 v244 v245 v246 v247 v248 v249 v250 v251 v252 v253 v254 v255 v256 v257 v258 v259 v260 v261 v262 v263 v264 v265 v266 v267 v268 v269 v270 v271 v272 : Value) (y : World), agrs sameI S.bs (batKs (tp, pt) (bsOf ss)) (fun _ => none) = none → Chk B y p vF vS vP FL SL PL S → MKeep B w y → Q .ret ⟨(c0 :: .string tp :: .int .i64 pt :: c3 :: c4 :: c5 :: .slice a ss.length cap :: c7 :: c8 :: c9 :: c10 :: c11 :: c12 :: c13 :: .int .i64 4 :: c15 :: c16 :: vf :: v18 :: c19 :: c20 :: c21 :: c22 :: c23 :: c24 :: v25 :: v26 :: v27 :: v28 :: c29 :: c30 :: c31 :: c32 :: c33 :: c34 :: c35 :: c36 :: c37 :: c38 :: c39 :: c40 :: c41 :: c42 :: c43 :: c44 :: c45 :: c46 :: c47 :: c48 :: c49 :: c50 :: c51 :: c52 :: c53 :: c54 :: c55 :: c56 :: c57 :: c58 :: c59 :: c60 :: c61 :: c62 :: c63 :: c64 :: c65 :: c66 :: c67 :: c68 :: c69 :: c70 :: c71 :: c72 :: c73 :: c74 :: c75 :: c76 :: c77 :: c78 :: c79 :: c80 :: c81 :: c82 :: c83 :: c84 :: c85 :: c86 :: c87 :: c88 :: c89 :: c90 :: c91 :: c92 :: c93 :: c94 :: c95 :: c96 :: c97 :: c98 :: c99 :: c100 :: c101 :: c102 :: c103 :: c104 :: c105 :: c106 :: c107 :: c108 :: c109 :: c110 :: c111 :: c112 :: c113 :: c114 :: c115 :: c116 :: c117 :: c118 :: c119 :: c120 :: c121 :: c122 :: c123 :: c124 :: c125 :: c126 :: c127 :: c128 :: c129 :: c130 :: c131 :: c132 :: c133 :: c134 :: c135 :: c136 :: c137 :: c138 :: c139 :: c140 :: c141 :: c142 :: c143 :: c144 :: c145 :: c146 :: c147 :: c148 :: c149 :: c150 :: c151 :: c152 :: c153 :: c154 :: c155 :: c156 :: c157 :: c158 :: c159 :: c160 :: c161 :: c162 :: c163 :: c164 :: c165 :: c166 :: c167 :: c168 :: c169 :: c170 :: c171 :: c172 :: c173 :: c174 :: c175 :: c176 :: c177 :: c178 :: c179 :: c180 :: c181 :: c182 :: c183 :: c184 :: c185 :: c186 :: c187 :: c188 :: c189 :: v190 :: v191 :: v192 :: v193 :: v194 :: v195 :: v196 :: v197 :: v198 :: v199 :: v200 :: v201 :: v202 :: v203 :: v204 :: v205 :: v206 :: v207 :: v208 :: v209 :: v210 :: v211 :: v212 :: v213 :: v214 :: v215 :: v216 :: v217 :: v218 :: v219 :: v220 :: v221 :: v222 :: v223 :: v224 :: v225 :: v226 :: v227 :: v228 :: v229 :: v230 :: v231 :: v232 :: v233 :: v234 :: v235 :: v236 :: v237 :: v238 :: v239 :: v240 :: v241 :: v242 :: v243 :: v244 :: v245 :: v246 :: v247 :: v248 :: v249 :: v250 :: v251 :: v252 :: v253 :: v254 :: v255 :: v256 :: v257 :: v258 :: v259 :: v260 :: v261 :: v262 :: v263 :: v264 :: v265 :: v266 :: v267 :: v268 :: v269 :: v270 :: v271 :: v272 :: c273 :: c274 :: c275 :: c276 :: c277 :: c278 :: c279 :: c280 :: c281 :: c282 :: c283 :: c284 :: c285 :: c286 :: c287 :: c288 :: c289 :: c290 :: c291 :: c292 :: c293 :: c294 :: c295 :: c296 :: c297 :: c298 :: c299 :: c300 :: c301 :: c302 :: c303 :: c304 :: c305 :: c306 :: c307 :: c308 :: c309 :: c310 :: c311 :: c312 :: []).toArray, []⟩ y)) :
    Code.wp Try.prog (Code.loop (nthLoop 4 Try.f12)) Q ⟨(c0 :: .string tp :: .int .i64 pt :: c3 :: c4 :: c5 :: .slice a ss.length cap :: c7 :: c8 :: c9 :: c10 :: c11 :: c12 :: c13 :: d14 :: c15 :: c16 :: vf :: vc :: c19 :: c20 :: c21 :: c22 :: c23 :: c24 :: .int .i64 0 :: d26 :: d27 :: d28 :: c29 :: c30 :: c31 :: c32 :: c33 :: c34 :: c35 :: c36 :: c37 :: c38 :: c39 :: c40 :: c41 :: c42 :: c43 :: c44 :: c45 :: c46 :: c47 :: c48 :: c49 :: c50 :: c51 :: c52 :: c53 :: c54 :: c55 :: c56 :: c57 :: c58 :: c59 :: c60 :: c61 :: c62 :: c63 :: c64 :: c65 :: c66 :: c67 :: c68 :: c69 :: c70 :: c71 :: c72 :: c73 :: c74 :: c75 :: c76 :: c77 :: c78 :: c79 :: c80 :: c81 :: c82 :: c83 :: c84 :: c85 :: c86 :: c87 :: c88 :: c89 :: c90 :: c91 :: c92 :: c93 :: c94 :: c95 :: c96 :: c97 :: c98 :: c99 :: c100 :: c101 :: c102 :: c103 :: c104 :: c105 :: c106 :: c107 :: c108 :: c109 :: c110 :: c111 :: c112 :: c113 :: c114 :: c115 :: c116 :: c117 :: c118 :: c119 :: c120 :: c121 :: c122 :: c123 :: c124 :: c125 :: c126 :: c127 :: c128 :: c129 :: c130 :: c131 :: c132 :: c133 :: c134 :: c135 :: c136 :: c137 :: c138 :: c139 :: c140 :: c141 :: c142 :: c143 :: c144 :: c145 :: c146 :: c147 :: c148 :: c149 :: c150 :: c151 :: c152 :: c153 :: c154 :: c155 :: c156 :: c157 :: c158 :: c159 :: c160 :: c161 :: c162 :: c163 :: c164 :: c165 :: c166 :: c167 :: c168 :: c169 :: c170 :: c171 :: c172 :: c173 :: c174 :: c175 :: c176 :: c177 :: c178 :: c179 :: c180 :: c181 :: c182 :: c183 :: c184 :: c185 :: c186 :: c187 :: c188 :: c189 :: d190 :: d191 :: d192 :: d193 :: d194 :: d195 :: d196 :: d197 :: d198 :: d199 :: d200 :: d201 :: d202 :: d203 :: d204 :: d205 :: d206 :: d207 :: d208 :: d209 :: d210 :: d211 :: d212 :: d213 :: d214 :: d215 :: d216 :: d217 :: d218 :: d219 :: d220 :: d221 :: d222 :: d223 :: d224 :: d225 :: d226 :: d227 :: d228 :: d229 :: d230 :: d231 :: d232 :: d233 :: d234 :: d235 :: d236 :: d237 :: d238 :: d239 :: d240 :: d241 :: d242 :: d243 :: d244 :: d245 :: d246 :: d247 :: d248 :: d249 :: d250 :: d251 :: d252 :: d253 :: d254 :: d255 :: d256 :: d257 :: d258 :: d259 :: d260 :: d261 :: d262 :: d263 :: d264 :: d265 :: d266 :: d267 :: d268 :: d269 :: d270 :: d271 :: d272 :: c273 :: c274 :: c275 :: c276 :: c277 :: c278 :: c279 :: c280 :: c281 :: c282 :: c283 :: c284 :: c285 :: c286 :: c287 :: c288 :: c289 :: c290 :: c291 :: c292 :: c293 :: c294 :: c295 :: c296 :: c297 :: c298 :: c299 :: c300 :: c301 :: c302 :: c303 :: c304 :: c305 :: c306 :: c307 :: c308 :: c309 :: c310 :: c311 :: c312 :: []).toArray, []⟩ W := by
  have HBI : Hid (∀ y, MKeep B w y → BIn y a ss) := hi
  have HCT : Hid (SL.length + (batKs (tp, pt) (bsOf ss)).length ≤ 1000000) := hcnt
  have HF0 : Hid (SSt B w p vF vS vP FL SL PL S vf L f ([]) (vc) M0 g0 W) := hF
  have hns := (hi W hF.keep).len
  unfold maxLen at hns
  clear hF hi hcnt
  conv => arg 2; arg 1; whnf
  go_loopw [18, 25] (fun vd i wr => ∃ (k : Nat) (M : List (TK × Int)) (g : TK → Option Int), k ≤ ss.length ∧ i = .int .i64 k ∧ SSt B w p vF vS vP FL SL PL S vf L f (batKs (tp, pt) ((bsOf ss).take k)) (vd) M g wr) (fun _ i _ => ss.length - (intOf i).toNat)
  case atStart => exact ⟨0, M0, g0, by omega, rfl, HF0.out⟩
  case round =>
    clear HF0
    obtain ⟨k, M, g, hk, rfl, hF⟩ := hrel
    have HF : Hid (SSt B w p vF vS vP FL SL PL S vf L f (batKs (tp, pt) ((bsOf ss).take k)) (u18) M g wr) := hF
    have hin := HBI.out wr hF.keep
    clear hF
    by_cases hlt : k < ss.length
    · have hltI : (k : Int) < (ss.length : Int) := by omega
      obtain ⟨gb, off, rfl, ce0, ce1, ce2, ce3, ce4⟩ := hin.cells k hlt
      have HOK : Hid (BOk (ss.getD k bsz).b) := hin.ok k hlt
      have HRR : Hid (∀ y, MKeep B w y → y.cell? ⟨gb, off + k * 5, none⟩ = some (.int .i64 (ss.getD k bsz).b.base) ∧ y.cell? ⟨gb, off + k * 5 + 2, none⟩ = some (.int .i64 (ss.getD k bsz).b.prod) ∧ y.cell? ⟨gb, off + k * 5 + 3, none⟩ = some (.int .i64 (ss.getD k bsz).b.seq)) := fun y hm => by
        have h := HBI.out y hm
        obtain ⟨g', off', e, d0, d1, d2, d3, d4⟩ := h.cells k hlt
        injection e with e
        injection e with e1 e2
        subst e1; subst e2
        exact ⟨d0, d2, d3⟩
      have HSN : Hid (batKs (tp, pt) ((bsOf ss).take (k + 1)) = batKs (tp, pt) ((bsOf ss).take k) ++ batK (tp, pt) (ss.getD k bsz).b) := by
        have := batKs_snoc (tp, pt) (bsOf ss) k (by rw [bsOf_len]; exact hlt)
        rwa [bsOf_get ss k hlt] at this
      have HRS : Hid (∃ r, batKs (tp, pt) (bsOf ss) = batKs (tp, pt) ((bsOf ss).take (k + 1)) ++ r) := batKs_rest _ _ _
      clear hin
      generalize (ss.getD k bsz).b = x' at *
      generalize (ss.getD k bsz).a = xa at *
      generalize (ss.getD k bsz).cap = xc at *
      obtain ⟨xb, xs, xp, xq, xr⟩ := x'
      simp only at ce0 ce1 ce2 ce3 ce4 HRR
      by_cases hp : xp < 1
      · have hpd : decide (xp < 1) = true := decide_eq_true hp
        have HE : Hid (SSt B w p vF vS vP FL SL PL S vf L f (batKs (tp, pt) ((bsOf ss).take (k + 1))) (u18) M g wr) := by
          show SSt _ _ _ _ _ _ _ _ _ _ _ _ _ _ _ _ _ _
          rw [HSN.out]
          unfold batK
          rw [if_neg (by show ¬ 0 < xp; omega), List.append_nil]
          exact HF.out
        go_wp2
        exact ⟨⟨k + 1, M, g, by omega, by go_num, HE.out⟩, by simp [intOf]; omega⟩
      · have hpd : decide (xp < 1) = false := decide_eq_false hp
        have HJS : Hid (batKs (tp, pt) ((bsOf ss).take (k + 1)) = batKs (tp, pt) ((bsOf ss).take k) ++ [((tp, pt, xp, xq), xb)]) := by
          show _ = _
          rw [HSN.out]
          unfold batK
          rw [if_pos (by show 0 < xp; omega)]
        have hLm : M.length + 1 ≤ 1000000 := by
          have h1 := HF.out.cnt
          have h := HCT.out
          obtain ⟨r, hr⟩ := HRS.out
          rw [hr, HJS.out] at h
          simp only [List.length_append, List.length_cons, List.length_nil] at h
          omega
        obtain ⟨ga, ca, hva⟩ := own_slice HF.out.cur
        subst hva
        have hbat := HRR.out wr HF.out.keep
        have HBAT : Hid _ := hbat
        clear hbat
        go_wp2
        refine sm_loop HF.out.cur HBAT.out hlt (by unfold maxLen; omega) HF.out.rep.dist hLm (fun w14 w27 w28 w202 w203 w204 w205 w206 w207 w208 w209 w210 w211 w212 w213 w214 w215 w216 w217 w218 w219 w220 w221 w222 w223 w224 w225 w226 w227 w228 w229 w230 w231 w232 w233 w234 w235 w236 w237 w238 w239 w240 w241 w242 w243 w244 w245 w246 w247 w248 w249 bb y hm hb => ?_) (fun w26 w27 w28 w202 w203 w204 w205 w206 w207 w208 w209 w210 w211 w212 w213 w214 w215 w216 w217 w218 w219 w220 w221 w222 w223 w224 w225 w226 w227 w228 w229 w230 w231 w232 w233 w234 w235 w236 w237 w238 w239 w240 w241 w242 w243 w244 w245 w246 w247 w248 w249 u y hu hne hb => ?_)
        · have HBW : Hid (Below wr.heap.size wr y) := hb
          have HM := hm.fun HF.out.rep.dist
          have HFW : Hid (SSt B w p vF vS vP FL SL PL S vf L f (batKs (tp, pt) ((bsOf ss).take k)) (.slice ga M.length ca) M g y) := HF.out.below HBW.out
          clear hb hm ce0 ce1 ce2 ce3 ce4
          rcases HM with ⟨rfl, hu⟩ | ⟨rfl, hu⟩
          · have HE : Hid (SSt B w p vF vS vP FL SL PL S vf L f (batKs (tp, pt) ((bsOf ss).take (k + 1))) (.slice ga M.length ca) M g y) := by
              show SSt _ _ _ _ _ _ _ _ _ _ _ _ _ _ _ _ _ _
              rw [HJS.out]
              exact HFW.out.met hu
            clear hu
            go_wp2
            exact ⟨⟨k + 1, M, g, by omega, by go_num, HE.out⟩, by simp [intOf]; omega⟩
          · have HU : Hid (asF M (tp, pt, xp, xq) = none) := hu
            have HFA : Hid (SSt B w p vF vS vP FL SL PL S vf L f (batKs (tp, pt) ((bsOf ss).take k)) (.slice ga M.length ca) M g ((y.alloc (.cells #[.string tp, .int .i64 pt, .int .i64 xp, .int .i64 xq, .int .i64 xb] 93)).drew)) := HFW.out.below (below_drewN (below_box _) 1)
            have HNW : Hid (∀ (j : Nat) (u : Value), (cS ((tp, pt, xp, xq), xb))[j]? = some u → (y.alloc (.cells #[.string tp, .int .i64 pt, .int .i64 xp, .int .i64 xq, .int .i64 xb] 93)).drew.cell? ((⟨y.heap.size, 0, none⟩ : Addr).add j) = some u) := by
              intro j u hj
              show (y.alloc (.cells #[.string tp, .int .i64 pt, .int .i64 xp, .int .i64 xq, .int .i64 xb] 93)).cell? _ = _
              rw [Addr.add_lit, cell_of_row _ _ _ _ _ _ (heap_alloc_new y _)]
              simpa [cS] using hj
            have HBA : Hid (B ≤ (y.alloc (.cells #[.string tp, .int .i64 pt, .int .i64 xp, .int .i64 xq, .int .i64 xb] 93)).drew.heap.size) := by
              have h1 := HFA.out.keep.size
              show _ ≤ _
              omega
            have HSY : Hid (∀ z, MKeep B w z → z.cell? ⟨gb, off + k * 5, none⟩ = some (.int .i64 xb) ∧ z.cell? ⟨gb, off + k * 5 + 2, none⟩ = some (.int .i64 xp) ∧ z.cell? ⟨gb, off + k * 5 + 3, none⟩ = some (.int .i64 xq)) := HRR.out
            clear hu
            go_wp2
            refine wp_region_lat (fun z : World => z.cell? ⟨gb, off + k * 5, none⟩ = some (.int .i64 xb) ∧ z.cell? ⟨gb, off + k * 5 + 2, none⟩ = some (.int .i64 xp) ∧ z.cell? ⟨gb, off + k * 5 + 3, none⟩ = some (.int .i64 xq)) 21 (by kernel_rfl) (HSY.out y.drew (HFW.out.below (below_drewN (Below.refl _ _) 1)).keep) (fun hHeld => ?_)
            refine lat_take 0 (v := ?_) rfl (by kernel_rfl) (by kernel_rfl) (by kernel_rfl) (by kernel_rfl) (fun _ _ _ h => HPN.out _ _ _ _ _ h) (by rfl) ?_ (by assumption) ?_
            rotate_left
            · (intro w hSw; (try dsimp only at hSw); (try obtain ⟨q0, q2, q3⟩ := hSw); go_simp <;> with_reducible rfl)
            try simp only [Act.put, List.setIfInBounds_toArray, List.set_cons_zero, List.set_cons_succ]
            refine lat_take 1 (v := ?_) rfl (by kernel_rfl) (by kernel_rfl) (by kernel_rfl) (by kernel_rfl) (fun _ _ _ h => HPN.out _ _ _ _ _ h) (by rfl) ?_ (by assumption) ?_
            rotate_left
            · (intro w hSw; (try dsimp only at hSw); (try obtain ⟨q0, q2, q3⟩ := hSw); go_simp <;> with_reducible rfl)
            try simp only [Act.put, List.setIfInBounds_toArray, List.set_cons_zero, List.set_cons_succ]
            refine lat_take 2 (v := ?_) rfl (by kernel_rfl) (by kernel_rfl) (by kernel_rfl) (by kernel_rfl) (fun _ _ _ h => HPN.out _ _ _ _ _ h) (by rfl) ?_ (by assumption) ?_
            rotate_left
            · (intro w hSw; (try dsimp only at hSw); (try obtain ⟨q0, q2, q3⟩ := hSw); go_simp <;> with_reducible rfl)
            try simp only [Act.put, List.setIfInBounds_toArray, List.set_cons_zero, List.set_cons_succ]
            refine lat_take 3 (v := ?_) rfl (by kernel_rfl) (by kernel_rfl) (by kernel_rfl) (by kernel_rfl) (fun _ _ _ h => HPN.out _ _ _ _ _ h) (by rfl) ?_ (by assumption) ?_
            rotate_left
            · (intro w hSw; (try dsimp only at hSw); (try obtain ⟨q0, q2, q3⟩ := hSw); go_simp <;> with_reducible rfl)
            try simp only [Act.put, List.setIfInBounds_toArray, List.set_cons_zero, List.set_cons_succ]
            refine lat_take 4 (v := ?_) rfl (by kernel_rfl) (by kernel_rfl) (by kernel_rfl) (by kernel_rfl) (fun _ _ _ h => HPN.out _ _ _ _ _ h) (by rfl) ?_ (by assumption) ?_
            rotate_left
            · (intro w hSw; (try dsimp only at hSw); (try obtain ⟨q0, q2, q3⟩ := hSw); go_simp <;> with_reducible rfl)
            try simp only [Act.put, List.setIfInBounds_toArray, List.set_cons_zero, List.set_cons_succ]
            refine lat_take 5 (v := ?_) rfl (by kernel_rfl) (by kernel_rfl) (by kernel_rfl) (by kernel_rfl) (fun _ _ _ h => HPN.out _ _ _ _ _ h) (by rfl) ?_ (by assumption) ?_
            rotate_left
            · (intro w hSw; (try dsimp only at hSw); (try obtain ⟨q0, q2, q3⟩ := hSw); go_simp <;> with_reducible rfl)
            try simp only [Act.put, List.setIfInBounds_toArray, List.set_cons_zero, List.set_cons_succ]
            refine lat_take 6 (v := ?_) rfl (by kernel_rfl) (by kernel_rfl) (by kernel_rfl) (by kernel_rfl) (fun _ _ _ h => HPN.out _ _ _ _ _ h) (by rfl) ?_ (by assumption) ?_
            rotate_left
            · (intro w hSw; (try dsimp only at hSw); (try obtain ⟨q0, q2, q3⟩ := hSw); go_simp <;> with_reducible rfl)
            try simp only [Act.put, List.setIfInBounds_toArray, List.set_cons_zero, List.set_cons_succ]
            refine lat_take 7 (v := ?_) rfl (by kernel_rfl) (by kernel_rfl) (by kernel_rfl) (by kernel_rfl) (fun _ _ _ h => HPN.out _ _ _ _ _ h) (by rfl) ?_ (by assumption) ?_
            rotate_left
            · (intro w hSw; (try dsimp only at hSw); (try obtain ⟨q0, q2, q3⟩ := hSw); go_simp <;> with_reducible rfl)
            try simp only [Act.put, List.setIfInBounds_toArray, List.set_cons_zero, List.set_cons_succ]
            refine lat_take 8 (v := ?_) rfl (by kernel_rfl) (by kernel_rfl) (by kernel_rfl) (by kernel_rfl) (fun _ _ _ h => HPN.out _ _ _ _ _ h) (by rfl) ?_ (by assumption) ?_
            rotate_left
            · (intro w hSw; (try dsimp only at hSw); (try obtain ⟨q0, q2, q3⟩ := hSw); go_simp <;> with_reducible rfl)
            try simp only [Act.put, List.setIfInBounds_toArray, List.set_cons_zero, List.set_cons_succ]
            refine lat_take 9 (v := ?_) rfl (by kernel_rfl) (by kernel_rfl) (by kernel_rfl) (by kernel_rfl) (fun _ _ _ h => HPN.out _ _ _ _ _ h) (by rfl) ?_ (by assumption) ?_
            rotate_left
            · (intro w hSw; (try dsimp only at hSw); (try obtain ⟨q0, q2, q3⟩ := hSw); go_simp <;> with_reducible rfl)
            try simp only [Act.put, List.setIfInBounds_toArray, List.set_cons_zero, List.set_cons_succ]
            refine lat_take 10 (v := ?_) rfl (by kernel_rfl) (by kernel_rfl) (by kernel_rfl) (by kernel_rfl) (fun _ _ _ h => HPN.out _ _ _ _ _ h) (by rfl) ?_ (by assumption) ?_
            rotate_left
            · (intro w hSw; (try dsimp only at hSw); (try obtain ⟨q0, q2, q3⟩ := hSw); go_simp <;> with_reducible rfl)
            try simp only [Act.put, List.setIfInBounds_toArray, List.set_cons_zero, List.set_cons_succ]
            refine lat_take 11 (v := ?_) rfl (by kernel_rfl) (by kernel_rfl) (by kernel_rfl) (by kernel_rfl) (fun _ _ _ h => HPN.out _ _ _ _ _ h) (by rfl) ?_ (by assumption) ?_
            rotate_left
            · (intro w hSw; (try dsimp only at hSw); (try obtain ⟨q0, q2, q3⟩ := hSw); go_simp <;> with_reducible rfl)
            try simp only [Act.put, List.setIfInBounds_toArray, List.set_cons_zero, List.set_cons_succ]
            refine lat_take 12 (v := ?_) rfl (by kernel_rfl) (by kernel_rfl) (by kernel_rfl) (by kernel_rfl) (fun _ _ _ h => HPN.out _ _ _ _ _ h) (by rfl) ?_ (by assumption) ?_
            rotate_left
            · (intro w hSw; (try dsimp only at hSw); (try obtain ⟨q0, q2, q3⟩ := hSw); go_simp <;> with_reducible rfl)
            try simp only [Act.put, List.setIfInBounds_toArray, List.set_cons_zero, List.set_cons_succ]
            refine lat_take 13 (v := ?_) rfl (by kernel_rfl) (by kernel_rfl) (by kernel_rfl) (by kernel_rfl) (fun _ _ _ h => HPN.out _ _ _ _ _ h) (by rfl) ?_ (by assumption) ?_
            rotate_left
            · (intro w hSw; (try dsimp only at hSw); (try obtain ⟨q0, q2, q3⟩ := hSw); go_simp <;> with_reducible rfl)
            try simp only [Act.put, List.setIfInBounds_toArray, List.set_cons_zero, List.set_cons_succ]
            refine lat_take 14 (v := ?_) rfl (by kernel_rfl) (by kernel_rfl) (by kernel_rfl) (by kernel_rfl) (fun _ _ _ h => HPN.out _ _ _ _ _ h) (by rfl) ?_ (by assumption) ?_
            rotate_left
            · (intro w hSw; (try dsimp only at hSw); (try obtain ⟨q0, q2, q3⟩ := hSw); go_simp <;> with_reducible rfl)
            try simp only [Act.put, List.setIfInBounds_toArray, List.set_cons_zero, List.set_cons_succ]
            refine lat_take 15 (v := ?_) rfl (by kernel_rfl) (by kernel_rfl) (by kernel_rfl) (by kernel_rfl) (fun _ _ _ h => HPN.out _ _ _ _ _ h) (by rfl) ?_ (by assumption) ?_
            rotate_left
            · (intro w hSw; (try dsimp only at hSw); (try obtain ⟨q0, q2, q3⟩ := hSw); go_simp <;> with_reducible rfl)
            try simp only [Act.put, List.setIfInBounds_toArray, List.set_cons_zero, List.set_cons_succ]
            refine lat_take 16 (v := ?_) rfl (by kernel_rfl) (by kernel_rfl) (by kernel_rfl) (by kernel_rfl) (fun _ _ _ h => HPN.out _ _ _ _ _ h) (by rfl) ?_ (by assumption) ?_
            rotate_left
            · (intro w hSw; (try dsimp only at hSw); (try obtain ⟨q0, q2, q3⟩ := hSw); go_simp <;> with_reducible rfl)
            try simp only [Act.put, List.setIfInBounds_toArray, List.set_cons_zero, List.set_cons_succ]
            refine lat_take 17 (v := ?_) rfl (by kernel_rfl) (by kernel_rfl) (by kernel_rfl) (by kernel_rfl) (fun _ _ _ h => HPN.out _ _ _ _ _ h) (by rfl) ?_ (by assumption) ?_
            rotate_left
            · (intro w hSw; (try dsimp only at hSw); (try obtain ⟨q0, q2, q3⟩ := hSw); go_simp <;> with_reducible rfl)
            try simp only [Act.put, List.setIfInBounds_toArray, List.set_cons_zero, List.set_cons_succ]
            refine lat_take 18 (v := ?_) rfl (by kernel_rfl) (by kernel_rfl) (by kernel_rfl) (by kernel_rfl) (fun _ _ _ h => HPN.out _ _ _ _ _ h) (by rfl) ?_ (by assumption) ?_
            rotate_left
            · (intro w hSw; (try dsimp only at hSw); (try obtain ⟨q0, q2, q3⟩ := hSw); go_simp <;> with_reducible rfl)
            try simp only [Act.put, List.setIfInBounds_toArray, List.set_cons_zero, List.set_cons_succ]
            refine lat_one 19 rfl (by kernel_rfl) (by decide) (by rfl) (fun K hK => ?_)
            go_simp
            refine hK.out _ _ (HSY.out (y.alloc (.cells #[.string tp, .int .i64 pt, .int .i64 xp, .int .i64 xq, .int .i64 xb] 93)).drew HFA.out.keep) (fun hHeld2 => ?_)
            clear hK hHeld
            try simp only [Act.put, List.setIfInBounds_toArray, List.set_cons_zero, List.set_cons_succ]
            refine lat_one 20 rfl (by kernel_rfl) (by decide) (by rfl) (fun K hK => ?_)
            refine wp_append_cS _ _ rfl B (.slice ga M.length ca) M.length (rowv cS M) rfl HFA.out.cur HBA.out ⟨y.heap.size, 0, none⟩ 1 ((tp, pt, xp, xq), xb) rfl HNW.out hLm ?_
            intro v' w' ha
            obtain ⟨g', hf'⟩ := HFA.out.new HU.out ha
            refine hK.out _ _ (HSY.out w' hf'.keep) (fun hHeld3 => ?_)
            have HF' : Hid (SSt B w p vF vS vP FL SL PL S vf L f (batKs (tp, pt) ((bsOf ss).take (k + 1))) (v') (M ++ [((tp, pt, xp, xq), xb)]) g' (w')) := by
              show SSt _ _ _ _ _ _ _ _ _ _ _ _ _ _ _ _ _ _
              rw [HJS.out]
              exact hf'
            clear hK hHeld2 ha hf'
            try simp only [Act.put, List.setIfInBounds_toArray, List.set_cons_zero, List.set_cons_succ]
            refine lat_last 21 rfl (by kernel_rfl) (by decide) (by kernel_rfl) (by rfl) (fun K hK => ?_)
            go_simp
            refine hK.out _ _ ?_
            clear hK hHeld3
            try simp only [Act.put, List.setIfInBounds_toArray, List.set_cons_zero, List.set_cons_succ]
            go_wp2
            exact ⟨⟨k + 1, _, g', by omega, by go_num, HF'.out⟩, by simp [intOf]; omega⟩
        · have HA : Hid (∀ (v18 v25 v26 v27 v28 v190 v191 v192 v193 v194 v195 v196 v197 v198 v199 v200 v201 v202 v203 v204 v205 v206 v207 v208 v209 v210 v211 v212 v213 v214 v215 v216 v217 v218 v219 v220 v221 v222 v223 v224 v225 v226 v227 v228 v229 v230 v231 v232 v233 v234 v235 v236 v237 v238 v239 v240 v241 v242 v243 v244 v245 v246 v247 v248 v249 v250 v251 v252 v253 v254 v255 v256 v257 v258 v259 v260 v261 v262 v263 v264 v265 v266 v267 v268 v269 v270 v271 v272 : Value), Q .ret ⟨(c0 :: .string tp :: .int .i64 pt :: c3 :: c4 :: c5 :: .slice (some ⟨gb, off, none⟩) ss.length cap :: c7 :: c8 :: c9 :: c10 :: c11 :: c12 :: c13 :: .int .i64 4 :: c15 :: c16 :: vf :: v18 :: c19 :: c20 :: c21 :: c22 :: c23 :: c24 :: v25 :: v26 :: v27 :: v28 :: c29 :: c30 :: c31 :: c32 :: c33 :: c34 :: c35 :: c36 :: c37 :: c38 :: c39 :: c40 :: c41 :: c42 :: c43 :: c44 :: c45 :: c46 :: c47 :: c48 :: c49 :: c50 :: c51 :: c52 :: c53 :: c54 :: c55 :: c56 :: c57 :: c58 :: c59 :: c60 :: c61 :: c62 :: c63 :: c64 :: c65 :: c66 :: c67 :: c68 :: c69 :: c70 :: c71 :: c72 :: c73 :: c74 :: c75 :: c76 :: c77 :: c78 :: c79 :: c80 :: c81 :: c82 :: c83 :: c84 :: c85 :: c86 :: c87 :: c88 :: c89 :: c90 :: c91 :: c92 :: c93 :: c94 :: c95 :: c96 :: c97 :: c98 :: c99 :: c100 :: c101 :: c102 :: c103 :: c104 :: c105 :: c106 :: c107 :: c108 :: c109 :: c110 :: c111 :: c112 :: c113 :: c114 :: c115 :: c116 :: c117 :: c118 :: c119 :: c120 :: c121 :: c122 :: c123 :: c124 :: c125 :: c126 :: c127 :: c128 :: c129 :: c130 :: c131 :: c132 :: c133 :: c134 :: c135 :: c136 :: c137 :: c138 :: c139 :: c140 :: c141 :: c142 :: c143 :: c144 :: c145 :: c146 :: c147 :: c148 :: c149 :: c150 :: c151 :: c152 :: c153 :: c154 :: c155 :: c156 :: c157 :: c158 :: c159 :: c160 :: c161 :: c162 :: c163 :: c164 :: c165 :: c166 :: c167 :: c168 :: c169 :: c170 :: c171 :: c172 :: c173 :: c174 :: c175 :: c176 :: c177 :: c178 :: c179 :: c180 :: c181 :: c182 :: c183 :: c184 :: c185 :: c186 :: c187 :: c188 :: c189 :: v190 :: v191 :: v192 :: v193 :: v194 :: v195 :: v196 :: v197 :: v198 :: v199 :: v200 :: v201 :: v202 :: v203 :: v204 :: v205 :: v206 :: v207 :: v208 :: v209 :: v210 :: v211 :: v212 :: v213 :: v214 :: v215 :: v216 :: v217 :: v218 :: v219 :: v220 :: v221 :: v222 :: v223 :: v224 :: v225 :: v226 :: v227 :: v228 :: v229 :: v230 :: v231 :: v232 :: v233 :: v234 :: v235 :: v236 :: v237 :: v238 :: v239 :: v240 :: v241 :: v242 :: v243 :: v244 :: v245 :: v246 :: v247 :: v248 :: v249 :: v250 :: v251 :: v252 :: v253 :: v254 :: v255 :: v256 :: v257 :: v258 :: v259 :: v260 :: v261 :: v262 :: v263 :: v264 :: v265 :: v266 :: v267 :: v268 :: v269 :: v270 :: v271 :: v272 :: c273 :: c274 :: c275 :: c276 :: c277 :: c278 :: c279 :: c280 :: c281 :: c282 :: c283 :: c284 :: c285 :: c286 :: c287 :: c288 :: c289 :: c290 :: c291 :: c292 :: c293 :: c294 :: c295 :: c296 :: c297 :: c298 :: c299 :: c300 :: c301 :: c302 :: c303 :: c304 :: c305 :: c306 :: c307 :: c308 :: c309 :: c310 :: c311 :: c312 :: []).toArray, []⟩ y) := fun v18 v25 v26 v27 v28 v190 v191 v192 v193 v194 v195 v196 v197 v198 v199 v200 v201 v202 v203 v204 v205 v206 v207 v208 v209 v210 v211 v212 v213 v214 v215 v216 v217 v218 v219 v220 v221 v222 v223 v224 v225 v226 v227 v228 v229 v230 v231 v232 v233 v234 v235 v236 v237 v238 v239 v240 v241 v242 v243 v244 v245 v246 v247 v248 v249 v250 v251 v252 v253 v254 v255 v256 v257 v258 v259 v260 v261 v262 v263 v264 v265 v266 v267 v268 v269 v270 v271 v272 => HR.out v18 v25 v26 v27 v28 v190 v191 v192 v193 v194 v195 v196 v197 v198 v199 v200 v201 v202 v203 v204 v205 v206 v207 v208 v209 v210 v211 v212 v213 v214 v215 v216 v217 v218 v219 v220 v221 v222 v223 v224 v225 v226 v227 v228 v229 v230 v231 v232 v233 v234 v235 v236 v237 v238 v239 v240 v241 v242 v243 v244 v245 v246 v247 v248 v249 v250 v251 v252 v253 v254 v255 v256 v257 v258 v259 v260 v261 v262 v263 v264 v265 v266 v267 v268 v269 v270 v271 v272 y (by
            obtain ⟨r, hr⟩ := HRS.out
            rw [hr, HJS.out]
            exact agrs_stop _ _ _ _ _ (HF.out.no hu hne)) (HF.out.below hb).old (HF.out.below hb).keep
          clear hu hne hb
          go_wp2
          exact HA.out _ _ _ _ _ _ _ _ _ _ _ _ _ _ _ _ _ _ _ _ _ _ _ _ _ _ _ _ _ _ _ _ _ _ _ _ _ _ _ _ _ _ _ _ _ _ _ _ _ _ _ _ _ _ _ _ _ _ _ _ _ _ _ _ _ _ _ _ _ _ _ _ _ _ _ _ _ _ _ _ _ _ _ _ _ _ _ _
    · obtain rfl : k = ss.length := by omega
      have HE : Hid (SSt B w p vF vS vP FL SL PL S vf L f (batKs (tp, pt) (bsOf ss)) (u18) M g wr) := by
        have h := HF.out
        rw [show ss.length = (bsOf ss).length by rw [bsOf_len], List.take_length] at h
        exact h
      clear hin
      go_wp2
      exact HX.out _ _ _ _ _ _ _ _ _ _ _ _ _ _ _ _ _ _ _ _ _ _ _ _ _ _ _ _ _ _ _ _ _ _ _ _ _ _ _ _ _ _ _ _ _ _ _ _ _ _ _ _ _ _ _ _ _ _ _ _ _ _ _ _ _ _ _ _ _ _ _ _ _ _ _ _ _ _ _ _ _ _ _ _ _ _ _ _ _ M g wr HE.out
end Go.Proofs.Ytnnljdnaipjoiaa
