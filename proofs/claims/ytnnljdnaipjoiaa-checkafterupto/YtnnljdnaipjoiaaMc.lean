/- The document's Saw: the loop over a batch's records. -/
import Derived.Test.YtnnljdnaipjoiaaMb
import Derived.Deep.DeepCutAuto
import Derived.Deep.CutRange
namespace Go.Proofs.Ytnnljdnaipjoiaa
set_option linter.unusedSimpArgs false
set_option linter.unusedVariables false
open Go.RowKit Go.MapKept
set_option maxHeartbeats 8000000 in
set_option maxRecDepth 1000000 in
theorem fj_loop {B p : Nat} {w : World} {vF vS vP : Value} {FL : List (SK × Rc)} {SL : List (TK × Int)} {PL : List (PK × (Int × Int))} {S : LS} {k0 : List (SK × Rc)} {tp : ByteArray} {pt xb xs xp xq : Int} {xr : List Rc} {gb off ns cap kk : Nat} {xa : Option Addr} {xc : Nat} {vc : Value} {L0 : List (SK × Rc)} {f0 : SK → Option Rc} {W : World}
    (hF : FSt B w p vF vS vP FL SL PL S k0 vc L0 f0 W) (hBw : B ≤ w.heap.size) (hRR : ∀ y, MKeep B w y → RRow y xa xr ∧ y.cell? ⟨gb, off + kk * 5, none⟩ = some (.int .i64 xb) ∧ y.cell? ⟨gb, off + kk * 5 + 4, none⟩ = some (.slice xa xr.length xc))
    (hOK : BOk ⟨xb, xs, xp, xq, xr⟩) (hkk : kk < ns) (hns : ns ≤ maxLen) (hrl : xr.length ≤ maxLen) (hcnt : FL.length + (k0.length + xr.length) ≤ 1000000)
    {Q : Exit → Act → World → Prop} {c0 c3 c4 c5 c7 c8 c9 c10 c11 c12 c13 c15 c16 c18 c25 c26 c27 c28 c29 c30 c31 c32 c33 c34 c35 c36 c37 c38 c39 c40 c41 c42 c43 c44 c45 c46 c47 c48 c49 c50 c51 c52 c53 c54 c55 c56 c57 c58 c59 c60 c61 c62 c63 c64 c65 c66 c67 c68 c69 c70 c71 c72 c73 c74 c75 c76 c77 c78 c79 c80 c81 c82 c83 c84 c85 c86 c87 c88 c89 c90 c91 c92 c93 c94 c95 c96 c97 c98 c99 c100 c101 c102 c103 c104 c105 c106 c107 c108 c109 c110 c111 c190 c191 c192 c193 c194 c195 c196 c197 c198 c199 c200 c201 c202 c203 c204 c205 c206 c207 c208 c209 c210 c211 c212 c213 c214 c215 c216 c217 c218 c219 c220 c221 c222 c223 c224 c225 c226 c227 c228 c229 c230 c231 c232 c233 c234 c235 c236 c237 c238 c239 c240 c241 c242 c243 c244 c245 c246 c247 c248 c249 c250 c251 c252 c253 c254 c255 c256 c257 c258 c259 c260 c261 c262 c263 c264 c265 c266 c267 c268 c269 c270 c271 c272 c273 c274 c275 c276 c277 c278 c279 c280 c281 c282 c283 c284 c285 c286 c287 c288 c289 c290 c291 c292 c293 c294 c295 c296 c297 c298 c299 c300 c301 c302 c303 c304 c305 c306 c307 c308 c309 c310 c311 c312 : Value} {d14 d21 d22 d23 d24 d112 d113 d114 d115 d116 d117 d118 d119 d120 d121 d122 d123 d124 d125 d126 d127 d128 d129 d130 d131 d132 d133 d134 d135 d136 d137 d138 d139 d140 d141 d142 d143 d144 d145 d146 d147 d148 d149 d150 d151 d152 d153 d154 d155 d156 d157 d158 d159 d160 d161 d162 d163 d164 d165 d166 d167 d168 d169 d170 d171 d172 d173 d174 d175 d176 d177 d178 d179 d180 d181 d182 d183 d184 d185 d186 d187 d188 d189 : Value}
    (HX : Hid (∀ (v14 v20 v21 v22 v23 v24 v112 v113 v114 v115 v116 v117 v118 v119 v120 v121 v122 v123 v124 v125 v126 v127 v128 v129 v130 v131 v132 v133 v134 v135 v136 v137 v138 v139 v140 v141 v142 v143 v144 v145 v146 v147 v148 v149 v150 v151 v152 v153 v154 v155 v156 v157 v158 v159 v160 v161 v162 v163 v164 v165 v166 v167 v168 v169 v170 v171 v172 v173 v174 v175 v176 v177 v178 v179 v180 v181 v182 v183 v184 v185 v186 v187 v188 v189 v' : Value) (L : List (SK × Rc)) (f : SK → Option Rc) (y : World), FSt B w p vF vS vP FL SL PL S (k0 ++ recK (tp, pt) ⟨xb, xs, xp, xq, xr⟩) v' L f y → Q (.exit 4) ⟨(c0 :: .string tp :: .int .i64 pt :: c3 :: c4 :: c5 :: .slice (some ⟨gb, off, none⟩) ns cap :: c7 :: c8 :: c9 :: c10 :: c11 :: c12 :: c13 :: v14 :: c15 :: c16 :: v' :: c18 :: .int .i64 kk :: v20 :: v21 :: v22 :: v23 :: v24 :: c25 :: c26 :: c27 :: c28 :: c29 :: c30 :: c31 :: c32 :: c33 :: c34 :: c35 :: c36 :: c37 :: c38 :: c39 :: c40 :: c41 :: c42 :: c43 :: c44 :: c45 :: c46 :: c47 :: c48 :: c49 :: c50 :: c51 :: c52 :: c53 :: c54 :: c55 :: c56 :: c57 :: c58 :: c59 :: c60 :: c61 :: c62 :: c63 :: c64 :: c65 :: c66 :: c67 :: c68 :: c69 :: c70 :: c71 :: c72 :: c73 :: c74 :: c75 :: c76 :: c77 :: c78 :: c79 :: c80 :: c81 :: c82 :: c83 :: c84 :: c85 :: c86 :: c87 :: c88 :: c89 :: c90 :: c91 :: c92 :: c93 :: c94 :: c95 :: c96 :: c97 :: c98 :: c99 :: c100 :: c101 :: c102 :: c103 :: c104 :: c105 :: c106 :: c107 :: c108 :: c109 :: c110 :: c111 :: v112 :: v113 :: v114 :: v115 :: v116 :: v117 :: v118 :: v119 :: v120 :: v121 :: v122 :: v123 :: v124 :: v125 :: v126 :: v127 :: v128 :: v129 :: v130 :: v131 :: v132 :: v133 :: v134 :: v135 :: v136 :: v137 :: v138 :: v139 :: v140 :: v141 :: v142 :: v143 :: v144 :: v145 :: v146 :: v147 :: v148 :: v149 :: v150 :: v151 :: v152 :: v153 :: v154 :: v155 :: v156 :: v157 :: v158 :: v159 :: v160 :: v161 :: v162 :: v163 :: v164 :: v165 :: v166 :: v167 :: v168 :: v169 :: v170 :: v171 :: v172 :: v173 :: v174 :: v175 :: v176 :: v177 :: v178 :: v179 :: v180 :: v181 :: v182 :: v183 :: v184 :: v185 :: v186 :: v187 :: v188 :: v189 :: c190 :: c191 :: c192 :: c193 :: c194 :: c195 :: c196 :: c197 :: c198 :: c199 :: c200 :: c201 :: c202 :: c203 :: c204 :: c205 :: c206 :: c207 :: c208 :: c209 :: c210 :: c211 :: c212 :: c213 :: c214 :: c215 :: c216 :: c217 :: c218 :: c219 :: c220 :: c221 :: c222 :: c223 :: c224 :: c225 :: c226 :: c227 :: c228 :: c229 :: c230 :: c231 :: c232 :: c233 :: c234 :: c235 :: c236 :: c237 :: c238 :: c239 :: c240 :: c241 :: c242 :: c243 :: c244 :: c245 :: c246 :: c247 :: c248 :: c249 :: c250 :: c251 :: c252 :: c253 :: c254 :: c255 :: c256 :: c257 :: c258 :: c259 :: c260 :: c261 :: c262 :: c263 :: c264 :: c265 :: c266 :: c267 :: c268 :: c269 :: c270 :: c271 :: c272 :: c273 :: c274 :: c275 :: c276 :: c277 :: c278 :: c279 :: c280 :: c281 :: c282 :: c283 :: c284 :: c285 :: c286 :: c287 :: c288 :: c289 :: c290 :: c291 :: c292 :: c293 :: c294 :: c295 :: c296 :: c297 :: c298 :: c299 :: c300 :: c301 :: c302 :: c303 :: c304 :: c305 :: c306 :: c307 :: c308 :: c309 :: c310 :: c311 :: c312 :: []).toArray, []⟩ y))
    (HR : Hid (∀ (v17 v20 v21 v22 v23 v24 v112 v113 v114 v115 v116 v117 v118 v119 v120 v121 v122 v123 v124 v125 v126 v127 v128 v129 v130 v131 v132 v133 v134 v135 v136 v137 v138 v139 v140 v141 v142 v143 v144 v145 v146 v147 v148 v149 v150 v151 v152 v153 v154 v155 v156 v157 v158 v159 v160 v161 v162 v163 v164 v165 v166 v167 v168 v169 v170 v171 v172 v173 v174 v175 v176 v177 v178 v179 v180 v181 v182 v183 v184 v185 v186 v187 v188 v189 : Value) (y : World), agrs sameR S.rc (k0 ++ recK (tp, pt) ⟨xb, xs, xp, xq, xr⟩) (fun _ => none) = none → Chk B y p vF vS vP FL SL PL S → MKeep B w y → Q .ret ⟨(c0 :: .string tp :: .int .i64 pt :: c3 :: c4 :: c5 :: .slice (some ⟨gb, off, none⟩) ns cap :: c7 :: c8 :: c9 :: c10 :: c11 :: c12 :: c13 :: .int .i64 3 :: c15 :: c16 :: v17 :: c18 :: .int .i64 kk :: v20 :: v21 :: v22 :: v23 :: v24 :: c25 :: c26 :: c27 :: c28 :: c29 :: c30 :: c31 :: c32 :: c33 :: c34 :: c35 :: c36 :: c37 :: c38 :: c39 :: c40 :: c41 :: c42 :: c43 :: c44 :: c45 :: c46 :: c47 :: c48 :: c49 :: c50 :: c51 :: c52 :: c53 :: c54 :: c55 :: c56 :: c57 :: c58 :: c59 :: c60 :: c61 :: c62 :: c63 :: c64 :: c65 :: c66 :: c67 :: c68 :: c69 :: c70 :: c71 :: c72 :: c73 :: c74 :: c75 :: c76 :: c77 :: c78 :: c79 :: c80 :: c81 :: c82 :: c83 :: c84 :: c85 :: c86 :: c87 :: c88 :: c89 :: c90 :: c91 :: c92 :: c93 :: c94 :: c95 :: c96 :: c97 :: c98 :: c99 :: c100 :: c101 :: c102 :: c103 :: c104 :: c105 :: c106 :: c107 :: c108 :: c109 :: c110 :: c111 :: v112 :: v113 :: v114 :: v115 :: v116 :: v117 :: v118 :: v119 :: v120 :: v121 :: v122 :: v123 :: v124 :: v125 :: v126 :: v127 :: v128 :: v129 :: v130 :: v131 :: v132 :: v133 :: v134 :: v135 :: v136 :: v137 :: v138 :: v139 :: v140 :: v141 :: v142 :: v143 :: v144 :: v145 :: v146 :: v147 :: v148 :: v149 :: v150 :: v151 :: v152 :: v153 :: v154 :: v155 :: v156 :: v157 :: v158 :: v159 :: v160 :: v161 :: v162 :: v163 :: v164 :: v165 :: v166 :: v167 :: v168 :: v169 :: v170 :: v171 :: v172 :: v173 :: v174 :: v175 :: v176 :: v177 :: v178 :: v179 :: v180 :: v181 :: v182 :: v183 :: v184 :: v185 :: v186 :: v187 :: v188 :: v189 :: c190 :: c191 :: c192 :: c193 :: c194 :: c195 :: c196 :: c197 :: c198 :: c199 :: c200 :: c201 :: c202 :: c203 :: c204 :: c205 :: c206 :: c207 :: c208 :: c209 :: c210 :: c211 :: c212 :: c213 :: c214 :: c215 :: c216 :: c217 :: c218 :: c219 :: c220 :: c221 :: c222 :: c223 :: c224 :: c225 :: c226 :: c227 :: c228 :: c229 :: c230 :: c231 :: c232 :: c233 :: c234 :: c235 :: c236 :: c237 :: c238 :: c239 :: c240 :: c241 :: c242 :: c243 :: c244 :: c245 :: c246 :: c247 :: c248 :: c249 :: c250 :: c251 :: c252 :: c253 :: c254 :: c255 :: c256 :: c257 :: c258 :: c259 :: c260 :: c261 :: c262 :: c263 :: c264 :: c265 :: c266 :: c267 :: c268 :: c269 :: c270 :: c271 :: c272 :: c273 :: c274 :: c275 :: c276 :: c277 :: c278 :: c279 :: c280 :: c281 :: c282 :: c283 :: c284 :: c285 :: c286 :: c287 :: c288 :: c289 :: c290 :: c291 :: c292 :: c293 :: c294 :: c295 :: c296 :: c297 :: c298 :: c299 :: c300 :: c301 :: c302 :: c303 :: c304 :: c305 :: c306 :: c307 :: c308 :: c309 :: c310 :: c311 :: c312 :: []).toArray, []⟩ y)) :
    Code.wp Try.prog (Code.loop (nthLoop 2 Try.f12)) Q ⟨(c0 :: .string tp :: .int .i64 pt :: c3 :: c4 :: c5 :: .slice (some ⟨gb, off, none⟩) ns cap :: c7 :: c8 :: c9 :: c10 :: c11 :: c12 :: c13 :: d14 :: c15 :: c16 :: vc :: c18 :: .int .i64 kk :: .int .i64 0 :: d21 :: d22 :: d23 :: d24 :: c25 :: c26 :: c27 :: c28 :: c29 :: c30 :: c31 :: c32 :: c33 :: c34 :: c35 :: c36 :: c37 :: c38 :: c39 :: c40 :: c41 :: c42 :: c43 :: c44 :: c45 :: c46 :: c47 :: c48 :: c49 :: c50 :: c51 :: c52 :: c53 :: c54 :: c55 :: c56 :: c57 :: c58 :: c59 :: c60 :: c61 :: c62 :: c63 :: c64 :: c65 :: c66 :: c67 :: c68 :: c69 :: c70 :: c71 :: c72 :: c73 :: c74 :: c75 :: c76 :: c77 :: c78 :: c79 :: c80 :: c81 :: c82 :: c83 :: c84 :: c85 :: c86 :: c87 :: c88 :: c89 :: c90 :: c91 :: c92 :: c93 :: c94 :: c95 :: c96 :: c97 :: c98 :: c99 :: c100 :: c101 :: c102 :: c103 :: c104 :: c105 :: c106 :: c107 :: c108 :: c109 :: c110 :: c111 :: d112 :: d113 :: d114 :: d115 :: d116 :: d117 :: d118 :: d119 :: d120 :: d121 :: d122 :: d123 :: d124 :: d125 :: d126 :: d127 :: d128 :: d129 :: d130 :: d131 :: d132 :: d133 :: d134 :: d135 :: d136 :: d137 :: d138 :: d139 :: d140 :: d141 :: d142 :: d143 :: d144 :: d145 :: d146 :: d147 :: d148 :: d149 :: d150 :: d151 :: d152 :: d153 :: d154 :: d155 :: d156 :: d157 :: d158 :: d159 :: d160 :: d161 :: d162 :: d163 :: d164 :: d165 :: d166 :: d167 :: d168 :: d169 :: d170 :: d171 :: d172 :: d173 :: d174 :: d175 :: d176 :: d177 :: d178 :: d179 :: d180 :: d181 :: d182 :: d183 :: d184 :: d185 :: d186 :: d187 :: d188 :: d189 :: c190 :: c191 :: c192 :: c193 :: c194 :: c195 :: c196 :: c197 :: c198 :: c199 :: c200 :: c201 :: c202 :: c203 :: c204 :: c205 :: c206 :: c207 :: c208 :: c209 :: c210 :: c211 :: c212 :: c213 :: c214 :: c215 :: c216 :: c217 :: c218 :: c219 :: c220 :: c221 :: c222 :: c223 :: c224 :: c225 :: c226 :: c227 :: c228 :: c229 :: c230 :: c231 :: c232 :: c233 :: c234 :: c235 :: c236 :: c237 :: c238 :: c239 :: c240 :: c241 :: c242 :: c243 :: c244 :: c245 :: c246 :: c247 :: c248 :: c249 :: c250 :: c251 :: c252 :: c253 :: c254 :: c255 :: c256 :: c257 :: c258 :: c259 :: c260 :: c261 :: c262 :: c263 :: c264 :: c265 :: c266 :: c267 :: c268 :: c269 :: c270 :: c271 :: c272 :: c273 :: c274 :: c275 :: c276 :: c277 :: c278 :: c279 :: c280 :: c281 :: c282 :: c283 :: c284 :: c285 :: c286 :: c287 :: c288 :: c289 :: c290 :: c291 :: c292 :: c293 :: c294 :: c295 :: c296 :: c297 :: c298 :: c299 :: c300 :: c301 :: c302 :: c303 :: c304 :: c305 :: c306 :: c307 :: c308 :: c309 :: c310 :: c311 :: c312 :: []).toArray, []⟩ W := by
  have HRR : Hid (∀ y, MKeep B w y → RRow y xa xr ∧ y.cell? ⟨gb, off + kk * 5, none⟩ = some (.int .i64 xb) ∧ y.cell? ⟨gb, off + kk * 5 + 4, none⟩ = some (.slice xa xr.length xc)) := hRR
  have HOK : Hid (BOk ⟨xb, xs, xp, xq, xr⟩) := hOK
  have HCT : Hid (FL.length + (k0.length + xr.length) ≤ 1000000) := hcnt
  have HJ0 : Hid (FSt B w p vF vS vP FL SL PL S (k0 ++ recJ (tp, pt) ⟨xb, xs, xp, xq, xr⟩ 0) vc L0 f0 W) := by
    show FSt _ _ _ _ _ _ _ _ _ _ _ _ _ _ _
    rw [recJ_zero, List.append_nil]
    exact hF
  unfold maxLen at hns hrl
  have hkkI : (kk : Int) < (ns : Int) := by omega
  clear hF hRR hOK hcnt
  conv => arg 2; arg 1; whnf
  go_loopw [17, 20] (fun vf i wr => ∃ (j : Nat) (L : List (SK × Rc)) (f : SK → Option Rc), j ≤ xr.length ∧ i = .int .i64 j ∧ FSt B w p vF vS vP FL SL PL S (k0 ++ recJ (tp, pt) ⟨xb, xs, xp, xq, xr⟩ j) vf L f wr) (fun _ i _ => xr.length - (intOf i).toNat)
  case atStart => exact ⟨0, L0, f0, by omega, rfl, HJ0.out⟩
  case round =>
    clear HJ0
    obtain ⟨j, L, f, hj, rfl, hF⟩ := hrel
    have HF : Hid (FSt B w p vF vS vP FL SL PL S (k0 ++ recJ (tp, pt) ⟨xb, xs, xp, xq, xr⟩ j) u17 L f wr) := hF
    have HKW : Hid (MKeep B w wr) := hF.keep
    clear hF
    obtain ⟨hrr, c0, c4⟩ := HRR.out wr HKW.out
    by_cases hjl : j < xr.length
    · have hjlI : (j : Int) < (xr.length : Int) := by omega
      obtain ⟨g2, off2, rfl, d0, d1, d2, d3, d4, d5⟩ := hrr j hjl
      have hrm : xr.getD j rz ∈ xr := by
        simp only [List.getD, List.getElem?_eq_getElem hjl, Option.getD_some]
        exact List.getElem_mem hjl
      have hro := HOK.out.r _ hrm
      have HJS : Hid (k0 ++ recJ (tp, pt) ⟨xb, xs, xp, xq, xr⟩ (j + 1) = (k0 ++ recJ (tp, pt) ⟨xb, xs, xp, xq, xr⟩ j) ++ [((tp, pt, xb + (xr.getD j rz).o), (xr.getD j rz).own)]) := by
        show _ = _
        rw [recJ_snoc (tp, pt) ⟨xb, xs, xp, xq, xr⟩ j hjl, ← List.append_assoc]
      have HRJ : Hid (∃ r, k0 ++ recK (tp, pt) ⟨xb, xs, xp, xq, xr⟩ = (k0 ++ recJ (tp, pt) ⟨xb, xs, xp, xq, xr⟩ (j + 1)) ++ r) := by
        obtain ⟨r2, hr2⟩ := recJ_rest (tp, pt) ⟨xb, xs, xp, xq, xr⟩ (j + 1)
        exact ⟨r2, by rw [hr2]; simp only [List.append_assoc]⟩
      have hLm : L.length + 1 ≤ 1000000 := by
        have h1 := HF.out.cnt
        have h2 := HCT.out
        have h3 : (recJ (tp, pt) ⟨xb, xs, xp, xq, xr⟩ j).length ≤ j := by simp [recJ, List.length_take]; omega
        rw [List.length_append] at h1
        omega
      have hb0 := HOK.out.b0
      have hb1 := HOK.out.b1
      have hs1 := HOK.out.s1
      simp only at hb0 hb1 hs1 hro
      clear hrr hrm
      generalize xr.getD j rz = r at *
      obtain ⟨r0, r1, r2, r3, r4, r5⟩ := r
      simp only [Rc.own] at d0 d1 d2 d3 d4 d5 hro HJS
      obtain ⟨ho0, ho1, _, _⟩ := hro
      have hwo : IntKind.i64.wrap (xb + r5) = xb + r5 := by rw [IntKind.wrap_i64]; omega
      clear ho0 ho1 hb0 hb1 hs1
      obtain ⟨ga, ca, hva⟩ := own_slice HF.out.cur
      subst hva
      have HC48 : Hid (Below wr.heap.size wr (wr.alloc (.cells #[.bool r0, .string r1, .bool r2, .string r3, .int .i64 r4, .int .i64 r5] 48)) ∧ (wr.alloc (.cells #[.bool r0, .string r1, .bool r2, .string r3, .int .i64 r4, .int .i64 r5] 48)).heap[wr.heap.size]? = some (.cells #[.bool r0, .string r1, .bool r2, .string r3, .int .i64 r4, .int .i64 r5] 48 (0, 0))) := ⟨below_box _, heap_alloc_new wr _⟩
      have HS20 : Hid (∀ y, Below (wr.alloc (.cells #[.bool r0, .string r1, .bool r2, .string r3, .int .i64 r4, .int .i64 r5] 48)).heap.size (wr.alloc (.cells #[.bool r0, .string r1, .bool r2, .string r3, .int .i64 r4, .int .i64 r5] 48)) y → y.cell? ⟨gb, off + kk * 5, none⟩ = some (.int .i64 xb) ∧ y.cell? ⟨wr.heap.size, 0, none⟩ = some (.bool r0) ∧ y.cell? ⟨wr.heap.size, 1, none⟩ = some (.string r1) ∧ y.cell? ⟨wr.heap.size, 2, none⟩ = some (.bool r2) ∧ y.cell? ⟨wr.heap.size, 3, none⟩ = some (.string r3) ∧ y.cell? ⟨wr.heap.size, 4, none⟩ = some (.int .i64 r4) ∧ y.cell? ⟨wr.heap.size, 5, none⟩ = some (.int .i64 r5)) := fun y hb => by
        have h := six_cells' HC48.out.2
        have hf := fun {o : Nat} {v : Value} {c : Nat} (hc : (wr.alloc (.cells #[.bool r0, .string r1, .bool r2, .string r3, .int .i64 r4, .int .i64 r5] 48)).cell? ⟨c, o, none⟩ = some v) => (hb.cell (World.block_lt_of_cell? _ _ hc)).trans hc
        exact ⟨(HRR.out y (HKW.out.trans ((MKeep.of_below HC48.out.1).trans (MKeep.of_below hb)))).2.1, hf h.1, hf h.2.1, hf h.2.2.1, hf h.2.2.2.1, hf h.2.2.2.2.1, hf h.2.2.2.2.2⟩
      have HS20a : Hid (∀ o : Obj, ((wr.alloc (.cells #[.bool r0, .string r1, .bool r2, .string r3, .int .i64 r4, .int .i64 r5] 48)).alloc o).drew.cell? ⟨gb, off + kk * 5, none⟩ = some (.int .i64 xb) ∧ ((wr.alloc (.cells #[.bool r0, .string r1, .bool r2, .string r3, .int .i64 r4, .int .i64 r5] 48)).alloc o).drew.cell? ⟨wr.heap.size, 0, none⟩ = some (.bool r0) ∧ ((wr.alloc (.cells #[.bool r0, .string r1, .bool r2, .string r3, .int .i64 r4, .int .i64 r5] 48)).alloc o).drew.cell? ⟨wr.heap.size, 1, none⟩ = some (.string r1) ∧ ((wr.alloc (.cells #[.bool r0, .string r1, .bool r2, .string r3, .int .i64 r4, .int .i64 r5] 48)).alloc o).drew.cell? ⟨wr.heap.size, 2, none⟩ = some (.bool r2) ∧ ((wr.alloc (.cells #[.bool r0, .string r1, .bool r2, .string r3, .int .i64 r4, .int .i64 r5] 48)).alloc o).drew.cell? ⟨wr.heap.size, 3, none⟩ = some (.string r3) ∧ ((wr.alloc (.cells #[.bool r0, .string r1, .bool r2, .string r3, .int .i64 r4, .int .i64 r5] 48)).alloc o).drew.cell? ⟨wr.heap.size, 4, none⟩ = some (.int .i64 r4) ∧ ((wr.alloc (.cells #[.bool r0, .string r1, .bool r2, .string r3, .int .i64 r4, .int .i64 r5] 48)).alloc o).drew.cell? ⟨wr.heap.size, 5, none⟩ = some (.int .i64 r5)) := fun o => HS20.out _ (below_drewN (below_box _) 1)
      have hS0 := HS20.out (wr.alloc (.cells #[.bool r0, .string r1, .bool r2, .string r3, .int .i64 r4, .int .i64 r5] 48)).drew (below_drewN (Below.refl _ _) 1)
      have HX20 : Hid (((wr.alloc (.cells #[.bool r0, .string r1, .bool r2, .string r3, .int .i64 r4, .int .i64 r5] 48)).alloc (.cells #[.string tp, .int .i64 pt, .int .i64 (xb + r5), .bool r0, .string r1, .bool r2, .string r3, .int .i64 r4, .int .i64 r5] 91)).drew.heap[wr.heap.size + 1]? = some (.cells #[.string tp, .int .i64 pt, .int .i64 (xb + r5), .bool r0, .string r1, .bool r2, .string r3, .int .i64 r4, .int .i64 r5] 91 (0, 0)) ∧ Below wr.heap.size wr ((wr.alloc (.cells #[.bool r0, .string r1, .bool r2, .string r3, .int .i64 r4, .int .i64 r5] 48)).alloc (.cells #[.string tp, .int .i64 pt, .int .i64 (xb + r5), .bool r0, .string r1, .bool r2, .string r3, .int .i64 r4, .int .i64 r5] 91)).drew) := by
        have h1 := heap_alloc_new (wr.alloc (.cells #[.bool r0, .string r1, .bool r2, .string r3, .int .i64 r4, .int .i64 r5] 48)) (.cells #[.string tp, .int .i64 pt, .int .i64 (xb + r5), .bool r0, .string r1, .bool r2, .string r3, .int .i64 r4, .int .i64 r5] 91)
        rw [show (wr.alloc (.cells #[.bool r0, .string r1, .bool r2, .string r3, .int .i64 r4, .int .i64 r5] 48)).heap.size = wr.heap.size + 1 by simp] at h1
        exact ⟨h1, below_drewN ((below_box _).trans ((below_box _).mono (by simp))) 1⟩
      go_upto_region 20 with fail
      go_cut [22] from 112 to 189 (fun s22 wc => s22 = .pointer (some ⟨wr.heap.size + 1, 0, none⟩) ∧ wc.heap[wr.heap.size + 1]? = some (.cells #[.string tp, .int .i64 pt, .int .i64 (xb + r5), .bool r0, .string r1, .bool r2, .string r3, .int .i64 r4, .int .i64 r5] 91 (0, 0)) ∧ Below wr.heap.size wr wc)
      case first =>
        go_region_held3 (fun y : World => y.cell? ⟨gb, off + kk * 5, none⟩ = some (.int .i64 xb) ∧ y.cell? ⟨wr.heap.size, 0, none⟩ = some (.bool r0) ∧ y.cell? ⟨wr.heap.size, 1, none⟩ = some (.string r1) ∧ y.cell? ⟨wr.heap.size, 2, none⟩ = some (.bool r2) ∧ y.cell? ⟨wr.heap.size, 3, none⟩ = some (.string r3) ∧ y.cell? ⟨wr.heap.size, 4, none⟩ = some (.int .i64 r4) ∧ y.cell? ⟨wr.heap.size, 5, none⟩ = some (.int .i64 r5)) (first | exact hS0 | exact HS20a.out _) (fail)
        all_goals
          go_wp2_with fail
          go_meet
          case rel => exact ⟨rfl, HX20.out⟩
      case rest =>
        obtain ⟨rfl, hbox, hbc⟩ := hcut
        generalize wc = W1 at *
        have HBX : Hid ((W1.setCell ⟨wr.heap.size + 1, 8, none⟩ (.int .i64 0)).heap[wr.heap.size + 1]? = some (.cells #[.string tp, .int .i64 pt, .int .i64 (xb + r5), .bool r0, .string r1, .bool r2, .string r3, .int .i64 r4, .int .i64 0] 91 (0, 0))) := setCell_heap hbox 8 _
        have HBY : Hid (Below wr.heap.size wr (W1.setCell ⟨wr.heap.size + 1, 8, none⟩ (.int .i64 0))) := hbc.setCell (by show wr.heap.size ≤ wr.heap.size + 1; omega) _
        have hn8 := (nine_cells hbox).2.2.2.2.2.2.2.2
        have hf8 := frozen_cells (i := 8) hbox
        clear hbox hbc hS0 HS20 HS20a HX20 HC48 c0 c4 d0 d1 d2 d3 d4 d5
        go_wp2
        refine fm_loop (own_below HF.out.cur HBY.out) HBX.out HF.out.rep.dist hLm (fun w14 w24 w144 w145 w146 w147 w148 w149 w150 w151 w152 w153 w154 w155 w156 w157 w158 w159 w160 w161 w162 w163 w164 w165 w166 w167 w168 w169 w170 w171 w172 w173 w174 w175 w176 w177 w178 w179 w180 w181 w182 w183 bb y hm hb => ?_) (fun w23 w24 w144 w145 w146 w147 w148 w149 w150 w151 w152 w153 w154 w155 w156 w157 w158 w159 w160 w161 w162 w163 w164 w165 w166 w167 w168 w169 w170 w171 w172 w173 w174 w175 w176 w177 w178 w179 w180 w181 w182 w183 u y hu hne hb => ?_)
        · have HBW : Hid (Below wr.heap.size wr y) := HBY.out.trans (hb.mono HBY.out.size)
          have HBX2 : Hid (y.heap[wr.heap.size + 1]? = some (.cells #[.string tp, .int .i64 pt, .int .i64 (xb + r5), .bool r0, .string r1, .bool r2, .string r3, .int .i64 r4, .int .i64 0] 91 (0, 0))) := (hb.block _ (Array.getElem?_eq_some_iff.1 HBX.out).1).trans HBX.out
          have HM := hm.fun HF.out.rep.dist
          have HFW : Hid (FSt B w p vF vS vP FL SL PL S (k0 ++ recJ (tp, pt) ⟨xb, xs, xp, xq, xr⟩ j) (.slice ga L.length ca) L f y) := HF.out.below HBW.out
          clear hb hm
          rcases HM with ⟨rfl, hu⟩ | ⟨rfl, hu⟩
          · have HE : Hid (FSt B w p vF vS vP FL SL PL S (k0 ++ recJ (tp, pt) ⟨xb, xs, xp, xq, xr⟩ (j + 1)) (.slice ga L.length ca) L f y) := by
              show FSt _ _ _ _ _ _ _ _ _ _ _ _ _ _ _
              rw [HJS.out]
              exact HFW.out.met hu
            clear hu
            go_wp2
            exact ⟨⟨j + 1, L, f, by omega, by go_num, HE.out⟩, by simp [intOf]; omega⟩
          · have HU : Hid (asF L (tp, pt, xb + r5) = none) := hu
            have HFA : Hid (FSt B w p vF vS vP FL SL PL S (k0 ++ recJ (tp, pt) ⟨xb, xs, xp, xq, xr⟩ j) (.slice ga L.length ca) L f (y.alloc (.cells #[.string tp, .int .i64 pt, .int .i64 (xb + r5), .bool r0, .string r1, .bool r2, .string r3, .int .i64 r4, .int .i64 0] 91))) := HFW.out.below (below_box _)
            have HNW : Hid (∀ (j : Nat) (u : Value), (cF ((tp, pt, xb + r5), ⟨r0, r1, r2, r3, r4, 0⟩))[j]? = some u → (y.alloc (.cells #[.string tp, .int .i64 pt, .int .i64 (xb + r5), .bool r0, .string r1, .bool r2, .string r3, .int .i64 r4, .int .i64 0] 91)).cell? ((⟨y.heap.size, 0, none⟩ : Addr).add j) = some u) := by
              intro j u hj
              rw [Addr.add_lit, cell_of_row _ _ _ _ _ _ (heap_alloc_new y _)]
              simpa [cF] using hj
            have HBA : Hid (B ≤ (y.alloc (.cells #[.string tp, .int .i64 pt, .int .i64 (xb + r5), .bool r0, .string r1, .bool r2, .string r3, .int .i64 r4, .int .i64 0] 91)).heap.size) := by
              have h1 := HFA.out.keep.size
              show _ ≤ _
              omega
            obtain ⟨b0, b1, b2, b3, b4, b5, b6, b7, b8⟩ := nine_cells HBX2.out
            clear hu
            go_wp2_with (at_builtin; refine wpList_app_cF (by rfl) _ _ rfl B (.slice ga L.length ca) L.length (rowv cF L) rfl HFA.out.cur HBA.out ⟨y.heap.size, 0, none⟩ 1 ((tp, pt, xb + r5), ⟨r0, r1, r2, r3, r4, 0⟩) rfl HNW.out hLm ?_; intro v' w' ha; have HAP : Hid (ApK 9 B 91 (y.alloc (.cells #[.string tp, .int .i64 pt, .int .i64 (xb + r5), .bool r0, .string r1, .bool r2, .string r3, .int .i64 r4, .int .i64 0] 91)) (.slice ga L.length ca) L.length (rowv cF L) (cF ((tp, pt, xb + r5), ⟨r0, r1, r2, r3, r4, 0⟩)) v' w') := ha; clear ha)
            obtain ⟨f', hf'⟩ := HFA.out.new HU.out HAP.out
            rw [← HJS.out] at hf'
            exact ⟨⟨j + 1, _, f', by omega, by go_num, hf'⟩, by simp [intOf]; omega⟩
        · have HA : Hid (∀ (v17 v20 v21 v22 v23 v24 v112 v113 v114 v115 v116 v117 v118 v119 v120 v121 v122 v123 v124 v125 v126 v127 v128 v129 v130 v131 v132 v133 v134 v135 v136 v137 v138 v139 v140 v141 v142 v143 v144 v145 v146 v147 v148 v149 v150 v151 v152 v153 v154 v155 v156 v157 v158 v159 v160 v161 v162 v163 v164 v165 v166 v167 v168 v169 v170 v171 v172 v173 v174 v175 v176 v177 v178 v179 v180 v181 v182 v183 v184 v185 v186 v187 v188 v189 : Value), Q .ret ⟨(c0 :: .string tp :: .int .i64 pt :: c3 :: c4 :: c5 :: .slice (some ⟨gb, off, none⟩) ns cap :: c7 :: c8 :: c9 :: c10 :: c11 :: c12 :: c13 :: .int .i64 3 :: c15 :: c16 :: v17 :: c18 :: .int .i64 kk :: v20 :: v21 :: v22 :: v23 :: v24 :: c25 :: c26 :: c27 :: c28 :: c29 :: c30 :: c31 :: c32 :: c33 :: c34 :: c35 :: c36 :: c37 :: c38 :: c39 :: c40 :: c41 :: c42 :: c43 :: c44 :: c45 :: c46 :: c47 :: c48 :: c49 :: c50 :: c51 :: c52 :: c53 :: c54 :: c55 :: c56 :: c57 :: c58 :: c59 :: c60 :: c61 :: c62 :: c63 :: c64 :: c65 :: c66 :: c67 :: c68 :: c69 :: c70 :: c71 :: c72 :: c73 :: c74 :: c75 :: c76 :: c77 :: c78 :: c79 :: c80 :: c81 :: c82 :: c83 :: c84 :: c85 :: c86 :: c87 :: c88 :: c89 :: c90 :: c91 :: c92 :: c93 :: c94 :: c95 :: c96 :: c97 :: c98 :: c99 :: c100 :: c101 :: c102 :: c103 :: c104 :: c105 :: c106 :: c107 :: c108 :: c109 :: c110 :: c111 :: v112 :: v113 :: v114 :: v115 :: v116 :: v117 :: v118 :: v119 :: v120 :: v121 :: v122 :: v123 :: v124 :: v125 :: v126 :: v127 :: v128 :: v129 :: v130 :: v131 :: v132 :: v133 :: v134 :: v135 :: v136 :: v137 :: v138 :: v139 :: v140 :: v141 :: v142 :: v143 :: v144 :: v145 :: v146 :: v147 :: v148 :: v149 :: v150 :: v151 :: v152 :: v153 :: v154 :: v155 :: v156 :: v157 :: v158 :: v159 :: v160 :: v161 :: v162 :: v163 :: v164 :: v165 :: v166 :: v167 :: v168 :: v169 :: v170 :: v171 :: v172 :: v173 :: v174 :: v175 :: v176 :: v177 :: v178 :: v179 :: v180 :: v181 :: v182 :: v183 :: v184 :: v185 :: v186 :: v187 :: v188 :: v189 :: c190 :: c191 :: c192 :: c193 :: c194 :: c195 :: c196 :: c197 :: c198 :: c199 :: c200 :: c201 :: c202 :: c203 :: c204 :: c205 :: c206 :: c207 :: c208 :: c209 :: c210 :: c211 :: c212 :: c213 :: c214 :: c215 :: c216 :: c217 :: c218 :: c219 :: c220 :: c221 :: c222 :: c223 :: c224 :: c225 :: c226 :: c227 :: c228 :: c229 :: c230 :: c231 :: c232 :: c233 :: c234 :: c235 :: c236 :: c237 :: c238 :: c239 :: c240 :: c241 :: c242 :: c243 :: c244 :: c245 :: c246 :: c247 :: c248 :: c249 :: c250 :: c251 :: c252 :: c253 :: c254 :: c255 :: c256 :: c257 :: c258 :: c259 :: c260 :: c261 :: c262 :: c263 :: c264 :: c265 :: c266 :: c267 :: c268 :: c269 :: c270 :: c271 :: c272 :: c273 :: c274 :: c275 :: c276 :: c277 :: c278 :: c279 :: c280 :: c281 :: c282 :: c283 :: c284 :: c285 :: c286 :: c287 :: c288 :: c289 :: c290 :: c291 :: c292 :: c293 :: c294 :: c295 :: c296 :: c297 :: c298 :: c299 :: c300 :: c301 :: c302 :: c303 :: c304 :: c305 :: c306 :: c307 :: c308 :: c309 :: c310 :: c311 :: c312 :: []).toArray, []⟩ y) := fun v17 v20 v21 v22 v23 v24 v112 v113 v114 v115 v116 v117 v118 v119 v120 v121 v122 v123 v124 v125 v126 v127 v128 v129 v130 v131 v132 v133 v134 v135 v136 v137 v138 v139 v140 v141 v142 v143 v144 v145 v146 v147 v148 v149 v150 v151 v152 v153 v154 v155 v156 v157 v158 v159 v160 v161 v162 v163 v164 v165 v166 v167 v168 v169 v170 v171 v172 v173 v174 v175 v176 v177 v178 v179 v180 v181 v182 v183 v184 v185 v186 v187 v188 v189 => HR.out v17 v20 v21 v22 v23 v24 v112 v113 v114 v115 v116 v117 v118 v119 v120 v121 v122 v123 v124 v125 v126 v127 v128 v129 v130 v131 v132 v133 v134 v135 v136 v137 v138 v139 v140 v141 v142 v143 v144 v145 v146 v147 v148 v149 v150 v151 v152 v153 v154 v155 v156 v157 v158 v159 v160 v161 v162 v163 v164 v165 v166 v167 v168 v169 v170 v171 v172 v173 v174 v175 v176 v177 v178 v179 v180 v181 v182 v183 v184 v185 v186 v187 v188 v189 y (by
            obtain ⟨r, hr⟩ := HRJ.out
            rw [hr, HJS.out]
            exact agrs_stop _ _ _ _ _ (HF.out.no hu hne)) (HF.out.below (HBY.out.trans (hb.mono HBY.out.size))).old (HF.out.below (HBY.out.trans (hb.mono HBY.out.size))).keep
          clear hu hne hb
          go_wp2
          exact HA.out _ _ _ _ _ _ _ _ _ _ _ _ _ _ _ _ _ _ _ _ _ _ _ _ _ _ _ _ _ _ _ _ _ _ _ _ _ _ _ _ _ _ _ _ _ _ _ _ _ _ _ _ _ _ _ _ _ _ _ _ _ _ _ _ _ _ _ _ _ _ _ _ _ _ _ _ _ _ _ _ _ _ _ _
    · obtain rfl : j = xr.length := by omega
      have HE : Hid (FSt B w p vF vS vP FL SL PL S (k0 ++ recK (tp, pt) ⟨xb, xs, xp, xq, xr⟩) u17 L f wr) := by
        show FSt _ _ _ _ _ _ _ _ _ _ _ _ _ _ _
        have e := recJ_all (tp, pt) ⟨xb, xs, xp, xq, xr⟩
        simp only at e
        rw [← e]
        exact HF.out
      go_wp2
      exact HX.out _ _ _ _ _ _ _ _ _ _ _ _ _ _ _ _ _ _ _ _ _ _ _ _ _ _ _ _ _ _ _ _ _ _ _ _ _ _ _ _ _ _ _ _ _ _ _ _ _ _ _ _ _ _ _ _ _ _ _ _ _ _ _ _ _ _ _ _ _ _ _ _ _ _ _ _ _ _ _ _ _ _ _ _ _ L f wr HE.out
end Go.Proofs.Ytnnljdnaipjoiaa
