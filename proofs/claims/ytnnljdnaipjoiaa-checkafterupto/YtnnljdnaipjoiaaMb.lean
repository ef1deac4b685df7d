/- The document's Saw: the innermost loop over the facts. -/
import Derived.Test.YtnnljdnaipjoiaaCl
import Derived.Test.YtnnljdnaipjoiaaLp
import Derived.BigQuiet
namespace Go.Proofs.Ytnnljdnaipjoiaa
set_option linter.unusedSimpArgs false
set_option linter.unusedVariables false
open Go.RowKit Go.MapKept
theorem strL {a b : ByteArray} (h : a.toList = b.toList) : a = b := by
  have := str_beq a b
  rw [h] at this
  simp at this
  exact this
theorem own_slice {w : World} {B T s n : Nat} {v : Value} {xs : List Value} (h : w.ownsRow B T s v n xs) : ∃ (g : Option Addr) (cp : Nat), v = .slice g n cp := by
  rcases h.2 with ⟨rfl, e⟩ | ⟨g, cap, cur, rfl, _⟩
  · exact ⟨none, 0, by rw [e]⟩
  · exact ⟨_, _, rfl⟩
/-- Whether a key was met among the first m. -/
def metK {κ ν : Type} (L : List (κ × ν)) (K : κ) (R : ν) (m : Nat) (b : Bool) : Prop := (b = true ∧ ∃ (i : Nat) (y : κ × ν), L[i]? = some y ∧ y.1 = K ∧ y.2 = R) ∨ (b = false ∧ ∀ (i : Nat) (y : κ × ν), i < m → L[i]? = some y → y.1 ≠ K)
theorem metK.no {κ ν : Type} {L : List (κ × ν)} {K : κ} {R : ν} {m : Nat} {b : Bool} (h : metK L K R m b) {y : κ × ν} (hy : L[m]? = some y) (hn : y.1 ≠ K) : metK L K R (m + 1) b := by
  rcases h with ⟨h1, h2⟩ | ⟨h1, h2⟩
  · exact .inl ⟨h1, h2⟩
  · refine .inr ⟨h1, fun i z hi hz => ?_⟩
    by_cases e : i = m
    · subst e
      rw [hy] at hz
      injection hz with hz
      rw [← hz]
      exact hn
    · exact h2 i z (by omega) hz
theorem metK.fun {κ ν : Type} [DecidableEq κ] {L : List (κ × ν)} {K : κ} {R : ν} {b : Bool} (h : metK L K R L.length b) (hd : Dist L) : (b = true ∧ asF L K = some R) ∨ (b = false ∧ asF L K = none) := by
  rcases h with ⟨h1, i, y, h2, h3, h4⟩ | ⟨h1, h2⟩
  · exact .inl ⟨h1, by rw [← h3, ← h4]; exact asF_get hd h2⟩
  · exact .inr ⟨h1, asF_none fun i y hy => h2 i y (List.getElem?_eq_some_iff.1 hy).1 hy⟩
theorem nine_cells {y : World} {b : Nat} {v0 v1 v2 v3 v4 v5 v6 v7 v8 : Value} {t : TypeId} (h : y.heap[b]? = some (.cells #[v0, v1, v2, v3, v4, v5, v6, v7, v8] t (0, 0))) :
    y.cell? ⟨b, 0, none⟩ = some v0 ∧ y.cell? ⟨b, 1, none⟩ = some v1 ∧ y.cell? ⟨b, 2, none⟩ = some v2 ∧ y.cell? ⟨b, 3, none⟩ = some v3 ∧ y.cell? ⟨b, 4, none⟩ = some v4 ∧ y.cell? ⟨b, 5, none⟩ = some v5 ∧ y.cell? ⟨b, 6, none⟩ = some v6 ∧ y.cell? ⟨b, 7, none⟩ = some v7 ∧ y.cell? ⟨b, 8, none⟩ = some v8 :=
  ⟨cell_of_row _ _ 0 _ _ _ h, cell_of_row _ _ 1 _ _ _ h, cell_of_row _ _ 2 _ _ _ h, cell_of_row _ _ 3 _ _ _ h, cell_of_row _ _ 4 _ _ _ h, cell_of_row _ _ 5 _ _ _ h, cell_of_row _ _ 6 _ _ _ h, cell_of_row _ _ 7 _ _ _ h, cell_of_row _ _ 8 _ _ _ h⟩
set_option maxHeartbeats 8000000 in
set_option maxRecDepth 1000000 in
theorem fm_loop {B gx : Nat} {L : List (SK × Rc)} {tp : ByteArray} {pt z : Int} {r0 r2 : Bool} {r1 r3 : ByteArray} {r4 : Int} {ga : Option Addr} {ca : Nat} {W : World} (hcur : W.ownsRow B 91 9 (.slice ga L.length ca) L.length (rowv cF L))
    (hbox : W.heap[gx]? = some (.cells #[.string tp, .int .i64 pt, .int .i64 z, .bool r0, .string r1, .bool r2, .string r3, .int .i64 r4, .int .i64 0] 91 (0, 0))) (hd : Dist L) (hL : L.length + 1 ≤ 1000000) {Q : Exit → Act → World → Prop} {c0 c3 c4 c5 c6 c7 c8 c9 c10 c11 c12 c13 c15 c16 c18 c19 c20 c21 c25 c26 c27 c28 c29 c30 c31 c32 c33 c34 c35 c36 c37 c38 c39 c40 c41 c42 c43 c44 c45 c46 c47 c48 c49 c50 c51 c52 c53 c54 c55 c56 c57 c58 c59 c60 c61 c62 c63 c64 c65 c66 c67 c68 c69 c70 c71 c72 c73 c74 c75 c76 c77 c78 c79 c80 c81 c82 c83 c84 c85 c86 c87 c88 c89 c90 c91 c92 c93 c94 c95 c96 c97 c98 c99 c100 c101 c102 c103 c104 c105 c106 c107 c108 c109 c110 c111 c112 c113 c114 c115 c116 c117 c118 c119 c120 c121 c122 c123 c124 c125 c126 c127 c128 c129 c130 c131 c132 c133 c134 c135 c136 c137 c138 c139 c140 c141 c142 c143 c184 c185 c186 c187 c188 c189 c190 c191 c192 c193 c194 c195 c196 c197 c198 c199 c200 c201 c202 c203 c204 c205 c206 c207 c208 c209 c210 c211 c212 c213 c214 c215 c216 c217 c218 c219 c220 c221 c222 c223 c224 c225 c226 c227 c228 c229 c230 c231 c232 c233 c234 c235 c236 c237 c238 c239 c240 c241 c242 c243 c244 c245 c246 c247 c248 c249 c250 c251 c252 c253 c254 c255 c256 c257 c258 c259 c260 c261 c262 c263 c264 c265 c266 c267 c268 c269 c270 c271 c272 c273 c274 c275 c276 c277 c278 c279 c280 c281 c282 c283 c284 c285 c286 c287 c288 c289 c290 c291 c292 c293 c294 c295 c296 c297 c298 c299 c300 c301 c302 c303 c304 c305 c306 c307 c308 c309 c310 c311 c312 : Value} {d14 d144 d145 d146 d147 d148 d149 d150 d151 d152 d153 d154 d155 d156 d157 d158 d159 d160 d161 d162 d163 d164 d165 d166 d167 d168 d169 d170 d171 d172 d173 d174 d175 d176 d177 d178 d179 d180 d181 d182 d183 : Value}
    (HX : Hid (∀ (v14 v24 v144 v145 v146 v147 v148 v149 v150 v151 v152 v153 v154 v155 v156 v157 v158 v159 v160 v161 v162 v163 v164 v165 v166 v167 v168 v169 v170 v171 v172 v173 v174 v175 v176 v177 v178 v179 v180 v181 v182 v183 : Value) (bb : Bool) (y : World), metK L (tp, pt, z) ⟨r0, r1, r2, r3, r4, 0⟩ L.length bb → Below W.heap.size W y → Q (.exit 6) ⟨(c0 :: .string tp :: .int .i64 pt :: c3 :: c4 :: c5 :: c6 :: c7 :: c8 :: c9 :: c10 :: c11 :: c12 :: c13 :: v14 :: c15 :: c16 :: .slice ga L.length ca :: c18 :: c19 :: c20 :: c21 :: .pointer (some ⟨gx, 0, none⟩) :: .bool bb :: v24 :: c25 :: c26 :: c27 :: c28 :: c29 :: c30 :: c31 :: c32 :: c33 :: c34 :: c35 :: c36 :: c37 :: c38 :: c39 :: c40 :: c41 :: c42 :: c43 :: c44 :: c45 :: c46 :: c47 :: c48 :: c49 :: c50 :: c51 :: c52 :: c53 :: c54 :: c55 :: c56 :: c57 :: c58 :: c59 :: c60 :: c61 :: c62 :: c63 :: c64 :: c65 :: c66 :: c67 :: c68 :: c69 :: c70 :: c71 :: c72 :: c73 :: c74 :: c75 :: c76 :: c77 :: c78 :: c79 :: c80 :: c81 :: c82 :: c83 :: c84 :: c85 :: c86 :: c87 :: c88 :: c89 :: c90 :: c91 :: c92 :: c93 :: c94 :: c95 :: c96 :: c97 :: c98 :: c99 :: c100 :: c101 :: c102 :: c103 :: c104 :: c105 :: c106 :: c107 :: c108 :: c109 :: c110 :: c111 :: c112 :: c113 :: c114 :: c115 :: c116 :: c117 :: c118 :: c119 :: c120 :: c121 :: c122 :: c123 :: c124 :: c125 :: c126 :: c127 :: c128 :: c129 :: c130 :: c131 :: c132 :: c133 :: c134 :: c135 :: c136 :: c137 :: c138 :: c139 :: c140 :: c141 :: c142 :: c143 :: v144 :: v145 :: v146 :: v147 :: v148 :: v149 :: v150 :: v151 :: v152 :: v153 :: v154 :: v155 :: v156 :: v157 :: v158 :: v159 :: v160 :: v161 :: v162 :: v163 :: v164 :: v165 :: v166 :: v167 :: v168 :: v169 :: v170 :: v171 :: v172 :: v173 :: v174 :: v175 :: v176 :: v177 :: v178 :: v179 :: v180 :: v181 :: v182 :: v183 :: c184 :: c185 :: c186 :: c187 :: c188 :: c189 :: c190 :: c191 :: c192 :: c193 :: c194 :: c195 :: c196 :: c197 :: c198 :: c199 :: c200 :: c201 :: c202 :: c203 :: c204 :: c205 :: c206 :: c207 :: c208 :: c209 :: c210 :: c211 :: c212 :: c213 :: c214 :: c215 :: c216 :: c217 :: c218 :: c219 :: c220 :: c221 :: c222 :: c223 :: c224 :: c225 :: c226 :: c227 :: c228 :: c229 :: c230 :: c231 :: c232 :: c233 :: c234 :: c235 :: c236 :: c237 :: c238 :: c239 :: c240 :: c241 :: c242 :: c243 :: c244 :: c245 :: c246 :: c247 :: c248 :: c249 :: c250 :: c251 :: c252 :: c253 :: c254 :: c255 :: c256 :: c257 :: c258 :: c259 :: c260 :: c261 :: c262 :: c263 :: c264 :: c265 :: c266 :: c267 :: c268 :: c269 :: c270 :: c271 :: c272 :: c273 :: c274 :: c275 :: c276 :: c277 :: c278 :: c279 :: c280 :: c281 :: c282 :: c283 :: c284 :: c285 :: c286 :: c287 :: c288 :: c289 :: c290 :: c291 :: c292 :: c293 :: c294 :: c295 :: c296 :: c297 :: c298 :: c299 :: c300 :: c301 :: c302 :: c303 :: c304 :: c305 :: c306 :: c307 :: c308 :: c309 :: c310 :: c311 :: c312 :: []).toArray, []⟩ y))
    (HR : Hid (∀ (v23 v24 v144 v145 v146 v147 v148 v149 v150 v151 v152 v153 v154 v155 v156 v157 v158 v159 v160 v161 v162 v163 v164 v165 v166 v167 v168 v169 v170 v171 v172 v173 v174 v175 v176 v177 v178 v179 v180 v181 v182 v183 : Value) (u : Rc) (y : World), asF L (tp, pt, z) = some u → u ≠ ⟨r0, r1, r2, r3, r4, 0⟩ → Below W.heap.size W y → Q .ret ⟨(c0 :: .string tp :: .int .i64 pt :: c3 :: c4 :: c5 :: c6 :: c7 :: c8 :: c9 :: c10 :: c11 :: c12 :: c13 :: .int .i64 3 :: c15 :: c16 :: .slice ga L.length ca :: c18 :: c19 :: c20 :: c21 :: .pointer (some ⟨gx, 0, none⟩) :: v23 :: v24 :: c25 :: c26 :: c27 :: c28 :: c29 :: c30 :: c31 :: c32 :: c33 :: c34 :: c35 :: c36 :: c37 :: c38 :: c39 :: c40 :: c41 :: c42 :: c43 :: c44 :: c45 :: c46 :: c47 :: c48 :: c49 :: c50 :: c51 :: c52 :: c53 :: c54 :: c55 :: c56 :: c57 :: c58 :: c59 :: c60 :: c61 :: c62 :: c63 :: c64 :: c65 :: c66 :: c67 :: c68 :: c69 :: c70 :: c71 :: c72 :: c73 :: c74 :: c75 :: c76 :: c77 :: c78 :: c79 :: c80 :: c81 :: c82 :: c83 :: c84 :: c85 :: c86 :: c87 :: c88 :: c89 :: c90 :: c91 :: c92 :: c93 :: c94 :: c95 :: c96 :: c97 :: c98 :: c99 :: c100 :: c101 :: c102 :: c103 :: c104 :: c105 :: c106 :: c107 :: c108 :: c109 :: c110 :: c111 :: c112 :: c113 :: c114 :: c115 :: c116 :: c117 :: c118 :: c119 :: c120 :: c121 :: c122 :: c123 :: c124 :: c125 :: c126 :: c127 :: c128 :: c129 :: c130 :: c131 :: c132 :: c133 :: c134 :: c135 :: c136 :: c137 :: c138 :: c139 :: c140 :: c141 :: c142 :: c143 :: v144 :: v145 :: v146 :: v147 :: v148 :: v149 :: v150 :: v151 :: v152 :: v153 :: v154 :: v155 :: v156 :: v157 :: v158 :: v159 :: v160 :: v161 :: v162 :: v163 :: v164 :: v165 :: v166 :: v167 :: v168 :: v169 :: v170 :: v171 :: v172 :: v173 :: v174 :: v175 :: v176 :: v177 :: v178 :: v179 :: v180 :: v181 :: v182 :: v183 :: c184 :: c185 :: c186 :: c187 :: c188 :: c189 :: c190 :: c191 :: c192 :: c193 :: c194 :: c195 :: c196 :: c197 :: c198 :: c199 :: c200 :: c201 :: c202 :: c203 :: c204 :: c205 :: c206 :: c207 :: c208 :: c209 :: c210 :: c211 :: c212 :: c213 :: c214 :: c215 :: c216 :: c217 :: c218 :: c219 :: c220 :: c221 :: c222 :: c223 :: c224 :: c225 :: c226 :: c227 :: c228 :: c229 :: c230 :: c231 :: c232 :: c233 :: c234 :: c235 :: c236 :: c237 :: c238 :: c239 :: c240 :: c241 :: c242 :: c243 :: c244 :: c245 :: c246 :: c247 :: c248 :: c249 :: c250 :: c251 :: c252 :: c253 :: c254 :: c255 :: c256 :: c257 :: c258 :: c259 :: c260 :: c261 :: c262 :: c263 :: c264 :: c265 :: c266 :: c267 :: c268 :: c269 :: c270 :: c271 :: c272 :: c273 :: c274 :: c275 :: c276 :: c277 :: c278 :: c279 :: c280 :: c281 :: c282 :: c283 :: c284 :: c285 :: c286 :: c287 :: c288 :: c289 :: c290 :: c291 :: c292 :: c293 :: c294 :: c295 :: c296 :: c297 :: c298 :: c299 :: c300 :: c301 :: c302 :: c303 :: c304 :: c305 :: c306 :: c307 :: c308 :: c309 :: c310 :: c311 :: c312 :: []).toArray, []⟩ y)) :
    Code.wp Try.prog (Code.loop (nthLoop 3 Try.f12)) Q ⟨(c0 :: .string tp :: .int .i64 pt :: c3 :: c4 :: c5 :: c6 :: c7 :: c8 :: c9 :: c10 :: c11 :: c12 :: c13 :: d14 :: c15 :: c16 :: .slice ga L.length ca :: c18 :: c19 :: c20 :: c21 :: .pointer (some ⟨gx, 0, none⟩) :: .bool false :: .int .i64 0 :: c25 :: c26 :: c27 :: c28 :: c29 :: c30 :: c31 :: c32 :: c33 :: c34 :: c35 :: c36 :: c37 :: c38 :: c39 :: c40 :: c41 :: c42 :: c43 :: c44 :: c45 :: c46 :: c47 :: c48 :: c49 :: c50 :: c51 :: c52 :: c53 :: c54 :: c55 :: c56 :: c57 :: c58 :: c59 :: c60 :: c61 :: c62 :: c63 :: c64 :: c65 :: c66 :: c67 :: c68 :: c69 :: c70 :: c71 :: c72 :: c73 :: c74 :: c75 :: c76 :: c77 :: c78 :: c79 :: c80 :: c81 :: c82 :: c83 :: c84 :: c85 :: c86 :: c87 :: c88 :: c89 :: c90 :: c91 :: c92 :: c93 :: c94 :: c95 :: c96 :: c97 :: c98 :: c99 :: c100 :: c101 :: c102 :: c103 :: c104 :: c105 :: c106 :: c107 :: c108 :: c109 :: c110 :: c111 :: c112 :: c113 :: c114 :: c115 :: c116 :: c117 :: c118 :: c119 :: c120 :: c121 :: c122 :: c123 :: c124 :: c125 :: c126 :: c127 :: c128 :: c129 :: c130 :: c131 :: c132 :: c133 :: c134 :: c135 :: c136 :: c137 :: c138 :: c139 :: c140 :: c141 :: c142 :: c143 :: d144 :: d145 :: d146 :: d147 :: d148 :: d149 :: d150 :: d151 :: d152 :: d153 :: d154 :: d155 :: d156 :: d157 :: d158 :: d159 :: d160 :: d161 :: d162 :: d163 :: d164 :: d165 :: d166 :: d167 :: d168 :: d169 :: d170 :: d171 :: d172 :: d173 :: d174 :: d175 :: d176 :: d177 :: d178 :: d179 :: d180 :: d181 :: d182 :: d183 :: c184 :: c185 :: c186 :: c187 :: c188 :: c189 :: c190 :: c191 :: c192 :: c193 :: c194 :: c195 :: c196 :: c197 :: c198 :: c199 :: c200 :: c201 :: c202 :: c203 :: c204 :: c205 :: c206 :: c207 :: c208 :: c209 :: c210 :: c211 :: c212 :: c213 :: c214 :: c215 :: c216 :: c217 :: c218 :: c219 :: c220 :: c221 :: c222 :: c223 :: c224 :: c225 :: c226 :: c227 :: c228 :: c229 :: c230 :: c231 :: c232 :: c233 :: c234 :: c235 :: c236 :: c237 :: c238 :: c239 :: c240 :: c241 :: c242 :: c243 :: c244 :: c245 :: c246 :: c247 :: c248 :: c249 :: c250 :: c251 :: c252 :: c253 :: c254 :: c255 :: c256 :: c257 :: c258 :: c259 :: c260 :: c261 :: c262 :: c263 :: c264 :: c265 :: c266 :: c267 :: c268 :: c269 :: c270 :: c271 :: c272 :: c273 :: c274 :: c275 :: c276 :: c277 :: c278 :: c279 :: c280 :: c281 :: c282 :: c283 :: c284 :: c285 :: c286 :: c287 :: c288 :: c289 :: c290 :: c291 :: c292 :: c293 :: c294 :: c295 :: c296 :: c297 :: c298 :: c299 :: c300 :: c301 :: c302 :: c303 :: c304 :: c305 :: c306 :: c307 :: c308 :: c309 :: c310 :: c311 :: c312 :: []).toArray, []⟩ W := by
  have HCUR : Hid (∀ y, Below W.heap.size W y → y.ownsRow B 91 9 (.slice ga L.length ca) L.length (rowv cF L)) := fun y hb => own_below hcur hb
  have HBX : Hid (∀ y, Below W.heap.size W y → y.heap[gx]? = some (.cells #[.string tp, .int .i64 pt, .int .i64 z, .bool r0, .string r1, .bool r2, .string r3, .int .i64 r4, .int .i64 0] 91 (0, 0))) := fun y hb => (hb.block gx (Array.getElem?_eq_some_iff.1 hbox).1).trans hbox
  have HD : Hid (Dist L) := hd
  clear hcur hbox hd
  conv => arg 2; arg 1; whnf
  go_loopw [23, 24] (fun b m wi => ∃ (mm : Nat) (bb : Bool), mm ≤ L.length ∧ m = .int .i64 mm ∧ b = .bool bb ∧ metK L (tp, pt, z) ⟨r0, r1, r2, r3, r4, 0⟩ mm bb ∧ Below W.heap.size W wi) (fun _ m _ => L.length - (intOf m).toNat)
  case atStart => exact ⟨0, false, by omega, rfl, rfl, .inr ⟨rfl, fun i y h => by omega⟩, Below.refl _ _⟩
  case round =>
    obtain ⟨mm, bb, hmm, rfl, rfl, hmet, hbw⟩ := hrel
    have HM : Hid (metK L (tp, pt, z) ⟨r0, r1, r2, r3, r4, 0⟩ mm bb) := hmet
    have HBW : Hid (Below W.heap.size W wr) := hbw
    clear hmet
    by_cases hml : mm < L.length
    · have hmI : (mm : Int) < (L.length : Int) := by omega
      obtain ⟨y, hy⟩ : ∃ y, L[mm]? = some y := ⟨_, List.getElem?_eq_getElem hml⟩
      obtain ⟨g', cap', e, hBg, hgl, hcell⟩ := own_rowv cF 9 cF_len (HCUR.out wr hbw) (by omega)
      simp only [Value.slice.injEq, true_and] at e
      obtain ⟨rfl, rfl⟩ := e
      have d0 := hcell mm y hy 0 _ rfl
      have d1 := hcell mm y hy 1 _ rfl
      have d2 := hcell mm y hy 2 _ rfl
      have d3 := hcell mm y hy 3 _ rfl
      have d4 := hcell mm y hy 4 _ rfl
      have d5 := hcell mm y hy 5 _ rfl
      have d6 := hcell mm y hy 6 _ rfl
      have d7 := hcell mm y hy 7 _ rfl
      have d8 := hcell mm y hy 8 _ rfl
      obtain ⟨b0, b1, b2, b3, b4, b5, b6, b7, b8⟩ := nine_cells (HBX.out wr hbw)
      have HY : Hid (L[mm]? = some y) := hy
      clear hy hcell hbw
      obtain ⟨⟨t, q, o⟩, ⟨s0, s1, s2, s3, s4, s5⟩⟩ := y
      simp only [Nat.add_zero] at d0 d1 d2 d3 d4 d5 d6 d7 d8
      by_cases e0 : tp = t
      · obtain rfl := e0
        have e0b : (tp == tp) = true := str_self tp
        by_cases e1 : pt = q
        · obtain rfl := e1
          by_cases e2 : z = o
          · obtain rfl := e2
            have HEQ : Hid (∀ w, (Op.equalIn 10000 48 (.agg #[.bool s0, .string s1, .bool s2, .string s3, .int .i64 s4, .int .i64 s5]) (.agg #[.bool r0, .string r1, .bool r2, .string r3, .int .i64 r4, .int .i64 0])).run Try.prog w = .ok (sameR ⟨s0, s1, s2, s3, s4, s5⟩ ⟨r0, r1, r2, r3, r4, 0⟩) w) := fun w => eqR_in w ⟨s0, s1, s2, s3, s4, s5⟩ ⟨r0, r1, r2, r3, r4, 0⟩
            have HSR : Hid (sameR ⟨s0, s1, s2, s3, s4, s5⟩ ⟨r0, r1, r2, r3, r4, 0⟩ = true ↔ (⟨s0, s1, s2, s3, s4, s5⟩ : Rc) = ⟨r0, r1, r2, r3, r4, 0⟩) := sameR_iff
            generalize sameR ⟨s0, s1, s2, s3, s4, s5⟩ ⟨r0, r1, r2, r3, r4, 0⟩ = RS at *
            go_wp2
            go_quiet (fail)
            have hq48 := HEQ.out
            cases RS
            · have HA : Hid (∀ (v23 v24 v144 v145 v146 v147 v148 v149 v150 v151 v152 v153 v154 v155 v156 v157 v158 v159 v160 v161 v162 v163 v164 v165 v166 v167 v168 v169 v170 v171 v172 v173 v174 v175 v176 v177 v178 v179 v180 v181 v182 v183 : Value) n m, Q .ret ⟨(c0 :: .string tp :: .int .i64 pt :: c3 :: c4 :: c5 :: c6 :: c7 :: c8 :: c9 :: c10 :: c11 :: c12 :: c13 :: .int .i64 3 :: c15 :: c16 :: .slice (some ⟨g', 0, none⟩) L.length ca :: c18 :: c19 :: c20 :: c21 :: .pointer (some ⟨gx, 0, none⟩) :: v23 :: v24 :: c25 :: c26 :: c27 :: c28 :: c29 :: c30 :: c31 :: c32 :: c33 :: c34 :: c35 :: c36 :: c37 :: c38 :: c39 :: c40 :: c41 :: c42 :: c43 :: c44 :: c45 :: c46 :: c47 :: c48 :: c49 :: c50 :: c51 :: c52 :: c53 :: c54 :: c55 :: c56 :: c57 :: c58 :: c59 :: c60 :: c61 :: c62 :: c63 :: c64 :: c65 :: c66 :: c67 :: c68 :: c69 :: c70 :: c71 :: c72 :: c73 :: c74 :: c75 :: c76 :: c77 :: c78 :: c79 :: c80 :: c81 :: c82 :: c83 :: c84 :: c85 :: c86 :: c87 :: c88 :: c89 :: c90 :: c91 :: c92 :: c93 :: c94 :: c95 :: c96 :: c97 :: c98 :: c99 :: c100 :: c101 :: c102 :: c103 :: c104 :: c105 :: c106 :: c107 :: c108 :: c109 :: c110 :: c111 :: c112 :: c113 :: c114 :: c115 :: c116 :: c117 :: c118 :: c119 :: c120 :: c121 :: c122 :: c123 :: c124 :: c125 :: c126 :: c127 :: c128 :: c129 :: c130 :: c131 :: c132 :: c133 :: c134 :: c135 :: c136 :: c137 :: c138 :: c139 :: c140 :: c141 :: c142 :: c143 :: v144 :: v145 :: v146 :: v147 :: v148 :: v149 :: v150 :: v151 :: v152 :: v153 :: v154 :: v155 :: v156 :: v157 :: v158 :: v159 :: v160 :: v161 :: v162 :: v163 :: v164 :: v165 :: v166 :: v167 :: v168 :: v169 :: v170 :: v171 :: v172 :: v173 :: v174 :: v175 :: v176 :: v177 :: v178 :: v179 :: v180 :: v181 :: v182 :: v183 :: c184 :: c185 :: c186 :: c187 :: c188 :: c189 :: c190 :: c191 :: c192 :: c193 :: c194 :: c195 :: c196 :: c197 :: c198 :: c199 :: c200 :: c201 :: c202 :: c203 :: c204 :: c205 :: c206 :: c207 :: c208 :: c209 :: c210 :: c211 :: c212 :: c213 :: c214 :: c215 :: c216 :: c217 :: c218 :: c219 :: c220 :: c221 :: c222 :: c223 :: c224 :: c225 :: c226 :: c227 :: c228 :: c229 :: c230 :: c231 :: c232 :: c233 :: c234 :: c235 :: c236 :: c237 :: c238 :: c239 :: c240 :: c241 :: c242 :: c243 :: c244 :: c245 :: c246 :: c247 :: c248 :: c249 :: c250 :: c251 :: c252 :: c253 :: c254 :: c255 :: c256 :: c257 :: c258 :: c259 :: c260 :: c261 :: c262 :: c263 :: c264 :: c265 :: c266 :: c267 :: c268 :: c269 :: c270 :: c271 :: c272 :: c273 :: c274 :: c275 :: c276 :: c277 :: c278 :: c279 :: c280 :: c281 :: c282 :: c283 :: c284 :: c285 :: c286 :: c287 :: c288 :: c289 :: c290 :: c291 :: c292 :: c293 :: c294 :: c295 :: c296 :: c297 :: c298 :: c299 :: c300 :: c301 :: c302 :: c303 :: c304 :: c305 :: c306 :: c307 :: c308 :: c309 :: c310 :: c311 :: c312 :: []).toArray, []⟩ ((wr.drewN n).drewN m)) := fun v23 v24 v144 v145 v146 v147 v148 v149 v150 v151 v152 v153 v154 v155 v156 v157 v158 v159 v160 v161 v162 v163 v164 v165 v166 v167 v168 v169 v170 v171 v172 v173 v174 v175 v176 v177 v178 v179 v180 v181 v182 v183 n m => HR.out v23 v24 v144 v145 v146 v147 v148 v149 v150 v151 v152 v153 v154 v155 v156 v157 v158 v159 v160 v161 v162 v163 v164 v165 v166 v167 v168 v169 v170 v171 v172 v173 v174 v175 v176 v177 v178 v179 v180 v181 v182 v183 _ _ (asF_get HD.out HY.out) (fun h => by have := HSR.out.2 h; cases this) (below_drewN (below_drewN HBW.out n) m)
              go_wp2
              go_quiet (fail)
              go_wp2
              exact HA.out _ _ _ _ _ _ _ _ _ _ _ _ _ _ _ _ _ _ _ _ _ _ _ _ _ _ _ _ _ _ _ _ _ _ _ _ _ _ _ _ _ _ _ _
            · have HMY : Hid (metK L (tp, pt, z) ⟨r0, r1, r2, r3, r4, 0⟩ (mm + 1) true) := .inl ⟨rfl, mm, _, HY.out, rfl, HSR.out.1 rfl⟩
              go_wp2
              go_quiet (fail)
              go_wp2
              exact ⟨⟨mm + 1, true, by omega, by go_num, rfl, HMY.out, below_drewN HBW.out _⟩, by simp [intOf]; omega⟩
          · have e2b : (o == z) = false := by simpa using fun h => e2 h.symm
            have HNX : Hid (metK L (tp, pt, z) ⟨r0, r1, r2, r3, r4, 0⟩ (mm + 1) bb) := HM.out.no HY.out (fun h => e2 (by injection h with h1 h2; injection h2 with h2 h3; exact h3.symm))
            go_wp2
            go_quiet (fail)
            go_wp2
            exact ⟨⟨mm + 1, bb, by omega, by go_num, rfl, HNX.out, below_drewN HBW.out _⟩, by simp [intOf]; omega⟩
        · have e1b : (q == pt) = false := by simpa using fun h => e1 h.symm
          have HNX : Hid (metK L (tp, pt, z) ⟨r0, r1, r2, r3, r4, 0⟩ (mm + 1) bb) := HM.out.no HY.out (fun h => e1 (by injection h with h1 h2; injection h2 with h2 h3; exact h2.symm))
          go_wp2
          go_quiet (fail)
          go_wp2
          exact ⟨⟨mm + 1, bb, by omega, by go_num, rfl, HNX.out, below_drewN HBW.out _⟩, by simp [intOf]; omega⟩
      · have e0c : (t.toList == tp.toList) = false := by
          rw [str_beq]
          exact decide_eq_false (fun h => e0 h.symm)
        have e0b : (t == tp) = false := by
          rw [beq_toListBytes]
          exact e0c
        have e0d : ¬ t.toList = tp.toList := fun h => e0 (strL h).symm
        have HNX : Hid (metK L (tp, pt, z) ⟨r0, r1, r2, r3, r4, 0⟩ (mm + 1) bb) := HM.out.no HY.out (fun h => e0 (by injection h with h1 h2; exact h1.symm))
        go_wp2
        go_quiet (fail)
        go_wp2
        exact ⟨⟨mm + 1, bb, by omega, by go_num, rfl, HNX.out, below_drewN HBW.out _⟩, by simp [intOf]; omega⟩
    · obtain rfl : mm = L.length := by omega
      go_wp2
      exact HX.out _ _ _ _ _ _ _ _ _ _ _ _ _ _ _ _ _ _ _ _ _ _ _ _ _ _ _ _ _ _ _ _ _ _ _ _ _ _ _ _ _ _ bb wr HM.out HBW.out
end Go.Proofs.Ytnnljdnaipjoiaa
