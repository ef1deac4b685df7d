/- The document's Saw: the innermost loop over the sents. -/
import Derived.Test.YtnnljdnaipjoiaaMb
namespace Go.Proofs.Ytnnljdnaipjoiaa
set_option linter.unusedSimpArgs false
set_option linter.unusedVariables false
open Go.RowKit Go.MapKept
set_option maxHeartbeats 8000000 in
set_option maxRecDepth 1000000 in
theorem sm_loop {B gb off ns cap kk : Nat} {M : List (TK × Int)} {tp : ByteArray} {pt xb xp xq : Int} {gs : Option Addr} {cs : Nat} {W : World} (hcur : W.ownsRow B 93 5 (.slice gs M.length cs) M.length (rowv cS M))
    (hbat : W.cell? ⟨gb, off + kk * 5, none⟩ = some (.int .i64 xb) ∧ W.cell? ⟨gb, off + kk * 5 + 2, none⟩ = some (.int .i64 xp) ∧ W.cell? ⟨gb, off + kk * 5 + 3, none⟩ = some (.int .i64 xq)) (hkk : kk < ns) (hns : ns ≤ maxLen) (hd : Dist M) (hL : M.length + 1 ≤ 1000000)
    {Q : Exit → Act → World → Prop} {c0 c3 c4 c5 c7 c8 c9 c10 c11 c12 c13 c15 c16 c17 c19 c20 c21 c22 c23 c24 c29 c30 c31 c32 c33 c34 c35 c36 c37 c38 c39 c40 c41 c42 c43 c44 c45 c46 c47 c48 c49 c50 c51 c52 c53 c54 c55 c56 c57 c58 c59 c60 c61 c62 c63 c64 c65 c66 c67 c68 c69 c70 c71 c72 c73 c74 c75 c76 c77 c78 c79 c80 c81 c82 c83 c84 c85 c86 c87 c88 c89 c90 c91 c92 c93 c94 c95 c96 c97 c98 c99 c100 c101 c102 c103 c104 c105 c106 c107 c108 c109 c110 c111 c112 c113 c114 c115 c116 c117 c118 c119 c120 c121 c122 c123 c124 c125 c126 c127 c128 c129 c130 c131 c132 c133 c134 c135 c136 c137 c138 c139 c140 c141 c142 c143 c144 c145 c146 c147 c148 c149 c150 c151 c152 c153 c154 c155 c156 c157 c158 c159 c160 c161 c162 c163 c164 c165 c166 c167 c168 c169 c170 c171 c172 c173 c174 c175 c176 c177 c178 c179 c180 c181 c182 c183 c184 c185 c186 c187 c188 c189 c190 c191 c192 c193 c194 c195 c196 c197 c198 c199 c200 c201 c250 c251 c252 c253 c254 c255 c256 c257 c258 c259 c260 c261 c262 c263 c264 c265 c266 c267 c268 c269 c270 c271 c272 c273 c274 c275 c276 c277 c278 c279 c280 c281 c282 c283 c284 c285 c286 c287 c288 c289 c290 c291 c292 c293 c294 c295 c296 c297 c298 c299 c300 c301 c302 c303 c304 c305 c306 c307 c308 c309 c310 c311 c312 : Value} {d14 d28 d202 d203 d204 d205 d206 d207 d208 d209 d210 d211 d212 d213 d214 d215 d216 d217 d218 d219 d220 d221 d222 d223 d224 d225 d226 d227 d228 d229 d230 d231 d232 d233 d234 d235 d236 d237 d238 d239 d240 d241 d242 d243 d244 d245 d246 d247 d248 d249 : Value}
    (HX : Hid (∀ (v14 v27 v28 v202 v203 v204 v205 v206 v207 v208 v209 v210 v211 v212 v213 v214 v215 v216 v217 v218 v219 v220 v221 v222 v223 v224 v225 v226 v227 v228 v229 v230 v231 v232 v233 v234 v235 v236 v237 v238 v239 v240 v241 v242 v243 v244 v245 v246 v247 v248 v249 : Value) (bb : Bool) (y : World), metK M (tp, pt, xp, xq) xb M.length bb → Below W.heap.size W y → Q (.exit 10) ⟨(c0 :: .string tp :: .int .i64 pt :: c3 :: c4 :: c5 :: .slice (some ⟨gb, off, none⟩) ns cap :: c7 :: c8 :: c9 :: c10 :: c11 :: c12 :: c13 :: v14 :: c15 :: c16 :: c17 :: .slice gs M.length cs :: c19 :: c20 :: c21 :: c22 :: c23 :: c24 :: .int .i64 kk :: .bool bb :: v27 :: v28 :: c29 :: c30 :: c31 :: c32 :: c33 :: c34 :: c35 :: c36 :: c37 :: c38 :: c39 :: c40 :: c41 :: c42 :: c43 :: c44 :: c45 :: c46 :: c47 :: c48 :: c49 :: c50 :: c51 :: c52 :: c53 :: c54 :: c55 :: c56 :: c57 :: c58 :: c59 :: c60 :: c61 :: c62 :: c63 :: c64 :: c65 :: c66 :: c67 :: c68 :: c69 :: c70 :: c71 :: c72 :: c73 :: c74 :: c75 :: c76 :: c77 :: c78 :: c79 :: c80 :: c81 :: c82 :: c83 :: c84 :: c85 :: c86 :: c87 :: c88 :: c89 :: c90 :: c91 :: c92 :: c93 :: c94 :: c95 :: c96 :: c97 :: c98 :: c99 :: c100 :: c101 :: c102 :: c103 :: c104 :: c105 :: c106 :: c107 :: c108 :: c109 :: c110 :: c111 :: c112 :: c113 :: c114 :: c115 :: c116 :: c117 :: c118 :: c119 :: c120 :: c121 :: c122 :: c123 :: c124 :: c125 :: c126 :: c127 :: c128 :: c129 :: c130 :: c131 :: c132 :: c133 :: c134 :: c135 :: c136 :: c137 :: c138 :: c139 :: c140 :: c141 :: c142 :: c143 :: c144 :: c145 :: c146 :: c147 :: c148 :: c149 :: c150 :: c151 :: c152 :: c153 :: c154 :: c155 :: c156 :: c157 :: c158 :: c159 :: c160 :: c161 :: c162 :: c163 :: c164 :: c165 :: c166 :: c167 :: c168 :: c169 :: c170 :: c171 :: c172 :: c173 :: c174 :: c175 :: c176 :: c177 :: c178 :: c179 :: c180 :: c181 :: c182 :: c183 :: c184 :: c185 :: c186 :: c187 :: c188 :: c189 :: c190 :: c191 :: c192 :: c193 :: c194 :: c195 :: c196 :: c197 :: c198 :: c199 :: c200 :: c201 :: v202 :: v203 :: v204 :: v205 :: v206 :: v207 :: v208 :: v209 :: v210 :: v211 :: v212 :: v213 :: v214 :: v215 :: v216 :: v217 :: v218 :: v219 :: v220 :: v221 :: v222 :: v223 :: v224 :: v225 :: v226 :: v227 :: v228 :: v229 :: v230 :: v231 :: v232 :: v233 :: v234 :: v235 :: v236 :: v237 :: v238 :: v239 :: v240 :: v241 :: v242 :: v243 :: v244 :: v245 :: v246 :: v247 :: v248 :: v249 :: c250 :: c251 :: c252 :: c253 :: c254 :: c255 :: c256 :: c257 :: c258 :: c259 :: c260 :: c261 :: c262 :: c263 :: c264 :: c265 :: c266 :: c267 :: c268 :: c269 :: c270 :: c271 :: c272 :: c273 :: c274 :: c275 :: c276 :: c277 :: c278 :: c279 :: c280 :: c281 :: c282 :: c283 :: c284 :: c285 :: c286 :: c287 :: c288 :: c289 :: c290 :: c291 :: c292 :: c293 :: c294 :: c295 :: c296 :: c297 :: c298 :: c299 :: c300 :: c301 :: c302 :: c303 :: c304 :: c305 :: c306 :: c307 :: c308 :: c309 :: c310 :: c311 :: c312 :: []).toArray, []⟩ y))
    (HR : Hid (∀ (v26 v27 v28 v202 v203 v204 v205 v206 v207 v208 v209 v210 v211 v212 v213 v214 v215 v216 v217 v218 v219 v220 v221 v222 v223 v224 v225 v226 v227 v228 v229 v230 v231 v232 v233 v234 v235 v236 v237 v238 v239 v240 v241 v242 v243 v244 v245 v246 v247 v248 v249 : Value) (u : Int) (y : World), asF M (tp, pt, xp, xq) = some u → u ≠ xb → Below W.heap.size W y → Q .ret ⟨(c0 :: .string tp :: .int .i64 pt :: c3 :: c4 :: c5 :: .slice (some ⟨gb, off, none⟩) ns cap :: c7 :: c8 :: c9 :: c10 :: c11 :: c12 :: c13 :: .int .i64 4 :: c15 :: c16 :: c17 :: .slice gs M.length cs :: c19 :: c20 :: c21 :: c22 :: c23 :: c24 :: .int .i64 kk :: v26 :: v27 :: v28 :: c29 :: c30 :: c31 :: c32 :: c33 :: c34 :: c35 :: c36 :: c37 :: c38 :: c39 :: c40 :: c41 :: c42 :: c43 :: c44 :: c45 :: c46 :: c47 :: c48 :: c49 :: c50 :: c51 :: c52 :: c53 :: c54 :: c55 :: c56 :: c57 :: c58 :: c59 :: c60 :: c61 :: c62 :: c63 :: c64 :: c65 :: c66 :: c67 :: c68 :: c69 :: c70 :: c71 :: c72 :: c73 :: c74 :: c75 :: c76 :: c77 :: c78 :: c79 :: c80 :: c81 :: c82 :: c83 :: c84 :: c85 :: c86 :: c87 :: c88 :: c89 :: c90 :: c91 :: c92 :: c93 :: c94 :: c95 :: c96 :: c97 :: c98 :: c99 :: c100 :: c101 :: c102 :: c103 :: c104 :: c105 :: c106 :: c107 :: c108 :: c109 :: c110 :: c111 :: c112 :: c113 :: c114 :: c115 :: c116 :: c117 :: c118 :: c119 :: c120 :: c121 :: c122 :: c123 :: c124 :: c125 :: c126 :: c127 :: c128 :: c129 :: c130 :: c131 :: c132 :: c133 :: c134 :: c135 :: c136 :: c137 :: c138 :: c139 :: c140 :: c141 :: c142 :: c143 :: c144 :: c145 :: c146 :: c147 :: c148 :: c149 :: c150 :: c151 :: c152 :: c153 :: c154 :: c155 :: c156 :: c157 :: c158 :: c159 :: c160 :: c161 :: c162 :: c163 :: c164 :: c165 :: c166 :: c167 :: c168 :: c169 :: c170 :: c171 :: c172 :: c173 :: c174 :: c175 :: c176 :: c177 :: c178 :: c179 :: c180 :: c181 :: c182 :: c183 :: c184 :: c185 :: c186 :: c187 :: c188 :: c189 :: c190 :: c191 :: c192 :: c193 :: c194 :: c195 :: c196 :: c197 :: c198 :: c199 :: c200 :: c201 :: v202 :: v203 :: v204 :: v205 :: v206 :: v207 :: v208 :: v209 :: v210 :: v211 :: v212 :: v213 :: v214 :: v215 :: v216 :: v217 :: v218 :: v219 :: v220 :: v221 :: v222 :: v223 :: v224 :: v225 :: v226 :: v227 :: v228 :: v229 :: v230 :: v231 :: v232 :: v233 :: v234 :: v235 :: v236 :: v237 :: v238 :: v239 :: v240 :: v241 :: v242 :: v243 :: v244 :: v245 :: v246 :: v247 :: v248 :: v249 :: c250 :: c251 :: c252 :: c253 :: c254 :: c255 :: c256 :: c257 :: c258 :: c259 :: c260 :: c261 :: c262 :: c263 :: c264 :: c265 :: c266 :: c267 :: c268 :: c269 :: c270 :: c271 :: c272 :: c273 :: c274 :: c275 :: c276 :: c277 :: c278 :: c279 :: c280 :: c281 :: c282 :: c283 :: c284 :: c285 :: c286 :: c287 :: c288 :: c289 :: c290 :: c291 :: c292 :: c293 :: c294 :: c295 :: c296 :: c297 :: c298 :: c299 :: c300 :: c301 :: c302 :: c303 :: c304 :: c305 :: c306 :: c307 :: c308 :: c309 :: c310 :: c311 :: c312 :: []).toArray, []⟩ y)) :
    Code.wp Try.prog (Code.loop (nthLoop 5 Try.f12)) Q ⟨(c0 :: .string tp :: .int .i64 pt :: c3 :: c4 :: c5 :: .slice (some ⟨gb, off, none⟩) ns cap :: c7 :: c8 :: c9 :: c10 :: c11 :: c12 :: c13 :: d14 :: c15 :: c16 :: c17 :: .slice gs M.length cs :: c19 :: c20 :: c21 :: c22 :: c23 :: c24 :: .int .i64 kk :: .bool false :: .int .i64 0 :: d28 :: c29 :: c30 :: c31 :: c32 :: c33 :: c34 :: c35 :: c36 :: c37 :: c38 :: c39 :: c40 :: c41 :: c42 :: c43 :: c44 :: c45 :: c46 :: c47 :: c48 :: c49 :: c50 :: c51 :: c52 :: c53 :: c54 :: c55 :: c56 :: c57 :: c58 :: c59 :: c60 :: c61 :: c62 :: c63 :: c64 :: c65 :: c66 :: c67 :: c68 :: c69 :: c70 :: c71 :: c72 :: c73 :: c74 :: c75 :: c76 :: c77 :: c78 :: c79 :: c80 :: c81 :: c82 :: c83 :: c84 :: c85 :: c86 :: c87 :: c88 :: c89 :: c90 :: c91 :: c92 :: c93 :: c94 :: c95 :: c96 :: c97 :: c98 :: c99 :: c100 :: c101 :: c102 :: c103 :: c104 :: c105 :: c106 :: c107 :: c108 :: c109 :: c110 :: c111 :: c112 :: c113 :: c114 :: c115 :: c116 :: c117 :: c118 :: c119 :: c120 :: c121 :: c122 :: c123 :: c124 :: c125 :: c126 :: c127 :: c128 :: c129 :: c130 :: c131 :: c132 :: c133 :: c134 :: c135 :: c136 :: c137 :: c138 :: c139 :: c140 :: c141 :: c142 :: c143 :: c144 :: c145 :: c146 :: c147 :: c148 :: c149 :: c150 :: c151 :: c152 :: c153 :: c154 :: c155 :: c156 :: c157 :: c158 :: c159 :: c160 :: c161 :: c162 :: c163 :: c164 :: c165 :: c166 :: c167 :: c168 :: c169 :: c170 :: c171 :: c172 :: c173 :: c174 :: c175 :: c176 :: c177 :: c178 :: c179 :: c180 :: c181 :: c182 :: c183 :: c184 :: c185 :: c186 :: c187 :: c188 :: c189 :: c190 :: c191 :: c192 :: c193 :: c194 :: c195 :: c196 :: c197 :: c198 :: c199 :: c200 :: c201 :: d202 :: d203 :: d204 :: d205 :: d206 :: d207 :: d208 :: d209 :: d210 :: d211 :: d212 :: d213 :: d214 :: d215 :: d216 :: d217 :: d218 :: d219 :: d220 :: d221 :: d222 :: d223 :: d224 :: d225 :: d226 :: d227 :: d228 :: d229 :: d230 :: d231 :: d232 :: d233 :: d234 :: d235 :: d236 :: d237 :: d238 :: d239 :: d240 :: d241 :: d242 :: d243 :: d244 :: d245 :: d246 :: d247 :: d248 :: d249 :: c250 :: c251 :: c252 :: c253 :: c254 :: c255 :: c256 :: c257 :: c258 :: c259 :: c260 :: c261 :: c262 :: c263 :: c264 :: c265 :: c266 :: c267 :: c268 :: c269 :: c270 :: c271 :: c272 :: c273 :: c274 :: c275 :: c276 :: c277 :: c278 :: c279 :: c280 :: c281 :: c282 :: c283 :: c284 :: c285 :: c286 :: c287 :: c288 :: c289 :: c290 :: c291 :: c292 :: c293 :: c294 :: c295 :: c296 :: c297 :: c298 :: c299 :: c300 :: c301 :: c302 :: c303 :: c304 :: c305 :: c306 :: c307 :: c308 :: c309 :: c310 :: c311 :: c312 :: []).toArray, []⟩ W := by
  have HCUR : Hid (∀ y, Below W.heap.size W y → y.ownsRow B 93 5 (.slice gs M.length cs) M.length (rowv cS M)) := fun y hb => own_below hcur hb
  have HBX : Hid (∀ y, Below W.heap.size W y → y.cell? ⟨gb, off + kk * 5, none⟩ = some (.int .i64 xb) ∧ y.cell? ⟨gb, off + kk * 5 + 2, none⟩ = some (.int .i64 xp) ∧ y.cell? ⟨gb, off + kk * 5 + 3, none⟩ = some (.int .i64 xq)) := fun y hb =>
    ⟨(hb.cell (World.block_lt_of_cell? _ _ hbat.1)).trans hbat.1, (hb.cell (World.block_lt_of_cell? _ _ hbat.2.1)).trans hbat.2.1, (hb.cell (World.block_lt_of_cell? _ _ hbat.2.2)).trans hbat.2.2⟩
  have HD : Hid (Dist M) := hd
  have hkkI : (kk : Int) < (ns : Int) := by omega
  unfold maxLen at hns
  clear hcur hbat hd
  conv => arg 2; arg 1; whnf
  go_loopw [26, 27] (fun b m wi => ∃ (mm : Nat) (bb : Bool), mm ≤ M.length ∧ m = .int .i64 mm ∧ b = .bool bb ∧ metK M (tp, pt, xp, xq) xb mm bb ∧ Below W.heap.size W wi) (fun _ m _ => M.length - (intOf m).toNat)
  case atStart => exact ⟨0, false, by omega, rfl, rfl, .inr ⟨rfl, fun i y h => by omega⟩, Below.refl _ _⟩
  case round =>
    obtain ⟨mm, bb, hmm, rfl, rfl, hmet, hbw⟩ := hrel
    have HM : Hid (metK M (tp, pt, xp, xq) xb mm bb) := hmet
    have HBW : Hid (Below W.heap.size W wr) := hbw
    clear hmet
    by_cases hml : mm < M.length
    · have hmI : (mm : Int) < (M.length : Int) := by omega
      obtain ⟨y, hy⟩ : ∃ y, M[mm]? = some y := ⟨_, List.getElem?_eq_getElem hml⟩
      obtain ⟨g', cap', e, hBg, hgl, hcell⟩ := own_rowv cS 5 cS_len (HCUR.out wr hbw) (by omega)
      simp only [Value.slice.injEq, true_and] at e
      obtain ⟨rfl, rfl⟩ := e
      have d0 := hcell mm y hy 0 _ rfl
      have d1 := hcell mm y hy 1 _ rfl
      have d2 := hcell mm y hy 2 _ rfl
      have d3 := hcell mm y hy 3 _ rfl
      have d4 := hcell mm y hy 4 _ rfl
      have HY : Hid (M[mm]? = some y) := hy
      clear hy hcell hbw
      obtain ⟨⟨t, q, o, sq⟩, sb⟩ := y
      simp only [Nat.add_zero] at d0 d1 d2 d3 d4
      have HB2 : Hid (Below W.heap.size W (wr.alloc (.cells #[.string t, .int .i64 q, .int .i64 o, .int .i64 sq, .int .i64 sb] 93))) := HBW.out.trans ((below_box _).mono HBW.out.size)
      obtain ⟨b0, b2, b3⟩ := HBX.out (wr.alloc (.cells #[.string t, .int .i64 q, .int .i64 o, .int .i64 sq, .int .i64 sb] 93)) HB2.out
      obtain ⟨x0, x1, x2, x3, x4⟩ := five_cells (heap_alloc_new wr (.cells #[.string t, .int .i64 q, .int .i64 o, .int .i64 sq, .int .i64 sb] 93))
      by_cases e0 : tp = t
      · obtain rfl := e0
        have e0b : (tp == tp) = true := str_self tp
        by_cases e1 : pt = q
        · obtain rfl := e1
          by_cases e2 : xp = o
          · obtain rfl := e2
            by_cases e3 : xq = sq
            · obtain rfl := e3
              by_cases e4 : xb = sb
              · obtain rfl := e4
                have HMY : Hid (metK M (tp, pt, xp, xq) xb (mm + 1) true) := .inl ⟨rfl, mm, _, HY.out, rfl, rfl⟩
                go_wp2
                go_quiet (fail)
                go_wp2
                go_quiet (fail)
                go_wp2
                exact ⟨⟨mm + 1, true, by omega, by go_num, rfl, HMY.out, below_drewN HB2.out _⟩, by simp [intOf]; omega⟩
              · have e4b : (sb != xb) = true := by simpa using fun h => e4 h.symm
                have HA : Hid (∀ (v26 v27 v28 v202 v203 v204 v205 v206 v207 v208 v209 v210 v211 v212 v213 v214 v215 v216 v217 v218 v219 v220 v221 v222 v223 v224 v225 v226 v227 v228 v229 v230 v231 v232 v233 v234 v235 v236 v237 v238 v239 v240 v241 v242 v243 v244 v245 v246 v247 v248 v249 : Value) n m, Q .ret ⟨(c0 :: .string tp :: .int .i64 pt :: c3 :: c4 :: c5 :: .slice (some ⟨gb, off, none⟩) ns cap :: c7 :: c8 :: c9 :: c10 :: c11 :: c12 :: c13 :: .int .i64 4 :: c15 :: c16 :: c17 :: .slice (some ⟨g', 0, none⟩) M.length cs :: c19 :: c20 :: c21 :: c22 :: c23 :: c24 :: .int .i64 kk :: v26 :: v27 :: v28 :: c29 :: c30 :: c31 :: c32 :: c33 :: c34 :: c35 :: c36 :: c37 :: c38 :: c39 :: c40 :: c41 :: c42 :: c43 :: c44 :: c45 :: c46 :: c47 :: c48 :: c49 :: c50 :: c51 :: c52 :: c53 :: c54 :: c55 :: c56 :: c57 :: c58 :: c59 :: c60 :: c61 :: c62 :: c63 :: c64 :: c65 :: c66 :: c67 :: c68 :: c69 :: c70 :: c71 :: c72 :: c73 :: c74 :: c75 :: c76 :: c77 :: c78 :: c79 :: c80 :: c81 :: c82 :: c83 :: c84 :: c85 :: c86 :: c87 :: c88 :: c89 :: c90 :: c91 :: c92 :: c93 :: c94 :: c95 :: c96 :: c97 :: c98 :: c99 :: c100 :: c101 :: c102 :: c103 :: c104 :: c105 :: c106 :: c107 :: c108 :: c109 :: c110 :: c111 :: c112 :: c113 :: c114 :: c115 :: c116 :: c117 :: c118 :: c119 :: c120 :: c121 :: c122 :: c123 :: c124 :: c125 :: c126 :: c127 :: c128 :: c129 :: c130 :: c131 :: c132 :: c133 :: c134 :: c135 :: c136 :: c137 :: c138 :: c139 :: c140 :: c141 :: c142 :: c143 :: c144 :: c145 :: c146 :: c147 :: c148 :: c149 :: c150 :: c151 :: c152 :: c153 :: c154 :: c155 :: c156 :: c157 :: c158 :: c159 :: c160 :: c161 :: c162 :: c163 :: c164 :: c165 :: c166 :: c167 :: c168 :: c169 :: c170 :: c171 :: c172 :: c173 :: c174 :: c175 :: c176 :: c177 :: c178 :: c179 :: c180 :: c181 :: c182 :: c183 :: c184 :: c185 :: c186 :: c187 :: c188 :: c189 :: c190 :: c191 :: c192 :: c193 :: c194 :: c195 :: c196 :: c197 :: c198 :: c199 :: c200 :: c201 :: v202 :: v203 :: v204 :: v205 :: v206 :: v207 :: v208 :: v209 :: v210 :: v211 :: v212 :: v213 :: v214 :: v215 :: v216 :: v217 :: v218 :: v219 :: v220 :: v221 :: v222 :: v223 :: v224 :: v225 :: v226 :: v227 :: v228 :: v229 :: v230 :: v231 :: v232 :: v233 :: v234 :: v235 :: v236 :: v237 :: v238 :: v239 :: v240 :: v241 :: v242 :: v243 :: v244 :: v245 :: v246 :: v247 :: v248 :: v249 :: c250 :: c251 :: c252 :: c253 :: c254 :: c255 :: c256 :: c257 :: c258 :: c259 :: c260 :: c261 :: c262 :: c263 :: c264 :: c265 :: c266 :: c267 :: c268 :: c269 :: c270 :: c271 :: c272 :: c273 :: c274 :: c275 :: c276 :: c277 :: c278 :: c279 :: c280 :: c281 :: c282 :: c283 :: c284 :: c285 :: c286 :: c287 :: c288 :: c289 :: c290 :: c291 :: c292 :: c293 :: c294 :: c295 :: c296 :: c297 :: c298 :: c299 :: c300 :: c301 :: c302 :: c303 :: c304 :: c305 :: c306 :: c307 :: c308 :: c309 :: c310 :: c311 :: c312 :: []).toArray, []⟩ (((wr.alloc (.cells #[.string tp, .int .i64 pt, .int .i64 xp, .int .i64 xq, .int .i64 sb] 93)).drewN n).drewN m)) := fun v26 v27 v28 v202 v203 v204 v205 v206 v207 v208 v209 v210 v211 v212 v213 v214 v215 v216 v217 v218 v219 v220 v221 v222 v223 v224 v225 v226 v227 v228 v229 v230 v231 v232 v233 v234 v235 v236 v237 v238 v239 v240 v241 v242 v243 v244 v245 v246 v247 v248 v249 n m => HR.out v26 v27 v28 v202 v203 v204 v205 v206 v207 v208 v209 v210 v211 v212 v213 v214 v215 v216 v217 v218 v219 v220 v221 v222 v223 v224 v225 v226 v227 v228 v229 v230 v231 v232 v233 v234 v235 v236 v237 v238 v239 v240 v241 v242 v243 v244 v245 v246 v247 v248 v249 _ _ (asF_get HD.out HY.out) (fun h => e4 h.symm) (below_drewN (below_drewN HB2.out n) m)
                go_wp2
                go_quiet (fail)
                go_wp2
                go_quiet (fail)
                go_wp2
                exact HA.out _ _ _ _ _ _ _ _ _ _ _ _ _ _ _ _ _ _ _ _ _ _ _ _ _ _ _ _ _ _ _ _ _ _ _ _ _ _ _ _ _ _ _ _ _ _ _ _ _ _ _ _ _
            · have e3b : (sq == xq) = false := by simpa using fun h => e3 h.symm
              have HNX : Hid (metK M (tp, pt, xp, xq) xb (mm + 1) bb) := HM.out.no HY.out (fun h => e3 (by injection h with h1 h2; injection h2 with h2 h3; injection h3 with h3 h4; exact h4.symm))
              go_wp2
              go_quiet (fail)
              go_wp2
              exact ⟨⟨mm + 1, bb, by omega, by go_num, rfl, HNX.out, below_drewN HB2.out _⟩, by simp [intOf]; omega⟩
          · have e2b : (o == xp) = false := by simpa using fun h => e2 h.symm
            have HNX : Hid (metK M (tp, pt, xp, xq) xb (mm + 1) bb) := HM.out.no HY.out (fun h => e2 (by injection h with h1 h2; injection h2 with h2 h3; injection h3 with h3 h4; exact h3.symm))
            go_wp2
            go_quiet (fail)
            go_wp2
            exact ⟨⟨mm + 1, bb, by omega, by go_num, rfl, HNX.out, below_drewN HB2.out _⟩, by simp [intOf]; omega⟩
        · have e1b : (q == pt) = false := by simpa using fun h => e1 h.symm
          have HNX : Hid (metK M (tp, pt, xp, xq) xb (mm + 1) bb) := HM.out.no HY.out (fun h => e1 (by injection h with h1 h2; injection h2 with h2 h3; exact h2.symm))
          go_wp2
          go_quiet (fail)
          go_wp2
          exact ⟨⟨mm + 1, bb, by omega, by go_num, rfl, HNX.out, below_drewN HB2.out _⟩, by simp [intOf]; omega⟩
      · have e0c : (t.toList == tp.toList) = false := by
          rw [str_beq]
          exact decide_eq_false (fun h => e0 h.symm)
        have e0b : (t == tp) = false := by
          rw [beq_toListBytes]
          exact e0c
        have e0d : ¬ t.toList = tp.toList := fun h => e0 (strL h).symm
        have HNX : Hid (metK M (tp, pt, xp, xq) xb (mm + 1) bb) := HM.out.no HY.out (fun h => e0 (by injection h with h1 h2; exact h1.symm))
        go_wp2
        go_quiet (fail)
        go_wp2
        exact ⟨⟨mm + 1, bb, by omega, by go_num, rfl, HNX.out, below_drewN HB2.out _⟩, by simp [intOf]; omega⟩
    · obtain rfl : mm = M.length := by omega
      go_wp2
      exact HX.out _ _ _ _ _ _ _ _ _ _ _ _ _ _ _ _ _ _ _ _ _ _ _ _ _ _ _ _ _ _ _ _ _ _ _ _ _ _ _ _ _ _ _ _ _ _ _ _ _ _ _ bb wr HM.out HBW.out
end Go.Proofs.Ytnnljdnaipjoiaa
