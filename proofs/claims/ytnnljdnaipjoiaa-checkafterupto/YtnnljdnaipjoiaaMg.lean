/- The document's Saw: the loop over the spans. -/
import Derived.Test.YtnnljdnaipjoiaaMb
namespace Go.Proofs.Ytnnljdnaipjoiaa
set_option linter.unusedSimpArgs false
set_option linter.unusedVariables false
open Go.RowKit Go.MapKept
/-- Where a partition's span stands; -1: nowhere. -/
def posK (PL : List (PK × (Int × Int))) (q : PK) (n : Nat) (x : Int) : Prop := (x = -1 ∧ ∀ i y, i < n → PL[i]? = some y → y.1 ≠ q) ∨ ∃ (j : Nat) (y : PK × (Int × Int)), j < n ∧ x = (j : Int) ∧ PL[j]? = some y ∧ y.1 = q
theorem posK.next {PL : List (PK × (Int × Int))} {q : PK} {n : Nat} {x : Int} (h : posK PL q n x) {y : PK × (Int × Int)} (hy : PL[n]? = some y) (hn : y.1 ≠ q) : posK PL q (n + 1) x := by
  rcases h with ⟨h1, h2⟩ | ⟨j, z, h1, h2⟩
  · refine .inl ⟨h1, fun i z hi hz => ?_⟩
    by_cases e : i = n
    · subst e
      rw [hy] at hz
      injection hz with hz
      rw [← hz]
      exact hn
    · exact h2 i z (by omega) hz
  · exact .inr ⟨j, z, by omega, h2⟩
theorem posK.fun {PL : List (PK × (Int × Int))} {q : PK} {x : Int} (h : posK PL q PL.length x) (hd : Dist PL) : (x = -1 ∧ asF PL q = none) ∨ ∃ (j : Nat) (y : PK × (Int × Int)), j < PL.length ∧ x = (j : Int) ∧ PL[j]? = some y ∧ y.1 = q ∧ asF PL q = some y.2 := by
  rcases h with ⟨h1, h2⟩ | ⟨j, y, h1, h2, h3, h4⟩
  · exact .inl ⟨h1, asF_none fun i y hy => h2 i y (List.getElem?_eq_some_iff.1 hy).1 hy⟩
  · exact .inr ⟨j, y, h1, h2, h3, h4, by rw [← h4]; exact asF_get hd h3⟩
set_option maxHeartbeats 8000000 in
set_option maxRecDepth 1000000 in
theorem sp_loop {B p : Nat} {vF vS : Value} {g : Option Addr} {cp : Nat} {FL : List (SK × Rc)} {SL : List (TK × Int)} {PL : List (PK × (Int × Int))} {S : LS} {tp : ByteArray} {pt : Int} {W : World} (hc : Chk B W p vF vS (.slice g PL.length cp) FL SL PL S) (hd : Dist PL) (hpl : PL.length + 1 ≤ 1000000)
    {Q : Exit → Act → World → Prop} {c3 c4 c5 c6 c7 c8 c9 c10 c11 c12 c13 c14 c17 c18 c19 c20 c21 c22 c23 c24 c25 c26 c27 c28 c61 c62 c63 c64 c65 c66 c67 c68 c69 c70 c71 c72 c73 c74 c75 c76 c77 c78 c79 c80 c81 c82 c83 c84 c85 c86 c87 c88 c89 c90 c91 c92 c93 c94 c95 c96 c97 c98 c99 c100 c101 c102 c103 c104 c105 c106 c107 c108 c109 c110 c111 c112 c113 c114 c115 c116 c117 c118 c119 c120 c121 c122 c123 c124 c125 c126 c127 c128 c129 c130 c131 c132 c133 c134 c135 c136 c137 c138 c139 c140 c141 c142 c143 c144 c145 c146 c147 c148 c149 c150 c151 c152 c153 c154 c155 c156 c157 c158 c159 c160 c161 c162 c163 c164 c165 c166 c167 c168 c169 c170 c171 c172 c173 c174 c175 c176 c177 c178 c179 c180 c181 c182 c183 c184 c185 c186 c187 c188 c189 c190 c191 c192 c193 c194 c195 c196 c197 c198 c199 c200 c201 c202 c203 c204 c205 c206 c207 c208 c209 c210 c211 c212 c213 c214 c215 c216 c217 c218 c219 c220 c221 c222 c223 c224 c225 c226 c227 c228 c229 c230 c231 c232 c233 c234 c235 c236 c237 c238 c239 c240 c241 c242 c243 c244 c245 c246 c247 c248 c249 c250 c251 c252 c253 c254 c255 c256 c257 c258 c259 c260 c261 c262 c263 c264 c265 c266 c267 c268 c269 c270 c271 c272 c273 c274 c275 c276 c277 c278 c279 c280 c281 c282 c283 c284 c285 c286 c287 c288 c289 c290 c291 c292 c293 c294 c295 c296 c297 c298 c299 c300 c301 c302 c303 c304 c305 c306 c307 c308 c309 c310 c311 c312 : Value} {d29 d30 d31 d32 d33 d34 d35 d36 d37 d38 d39 d40 d41 d42 d43 d44 d45 d46 d47 d48 d49 d50 d51 d52 d53 d54 d55 d56 d57 d58 d59 d60 : Value}
    (HX : Hid (∀ (v16 v29 v30 v31 v32 v33 v34 v35 v36 v37 v38 v39 v40 v41 v42 v43 v44 v45 v46 v47 v48 v49 v50 v51 v52 v53 v54 v55 v56 v57 v58 v59 v60 : Value) (x : Int) (y : World), posK PL (tp, pt) PL.length x → Below W.heap.size W y → Q (.exit 0) ⟨(.pointer (some ⟨p, 0, none⟩) :: .string tp :: .int .i64 pt :: c3 :: c4 :: c5 :: c6 :: c7 :: c8 :: c9 :: c10 :: c11 :: c12 :: c13 :: c14 :: .int .i64 x :: v16 :: c17 :: c18 :: c19 :: c20 :: c21 :: c22 :: c23 :: c24 :: c25 :: c26 :: c27 :: c28 :: v29 :: v30 :: v31 :: v32 :: v33 :: v34 :: v35 :: v36 :: v37 :: v38 :: v39 :: v40 :: v41 :: v42 :: v43 :: v44 :: v45 :: v46 :: v47 :: v48 :: v49 :: v50 :: v51 :: v52 :: v53 :: v54 :: v55 :: v56 :: v57 :: v58 :: v59 :: v60 :: c61 :: c62 :: c63 :: c64 :: c65 :: c66 :: c67 :: c68 :: c69 :: c70 :: c71 :: c72 :: c73 :: c74 :: c75 :: c76 :: c77 :: c78 :: c79 :: c80 :: c81 :: c82 :: c83 :: c84 :: c85 :: c86 :: c87 :: c88 :: c89 :: c90 :: c91 :: c92 :: c93 :: c94 :: c95 :: c96 :: c97 :: c98 :: c99 :: c100 :: c101 :: c102 :: c103 :: c104 :: c105 :: c106 :: c107 :: c108 :: c109 :: c110 :: c111 :: c112 :: c113 :: c114 :: c115 :: c116 :: c117 :: c118 :: c119 :: c120 :: c121 :: c122 :: c123 :: c124 :: c125 :: c126 :: c127 :: c128 :: c129 :: c130 :: c131 :: c132 :: c133 :: c134 :: c135 :: c136 :: c137 :: c138 :: c139 :: c140 :: c141 :: c142 :: c143 :: c144 :: c145 :: c146 :: c147 :: c148 :: c149 :: c150 :: c151 :: c152 :: c153 :: c154 :: c155 :: c156 :: c157 :: c158 :: c159 :: c160 :: c161 :: c162 :: c163 :: c164 :: c165 :: c166 :: c167 :: c168 :: c169 :: c170 :: c171 :: c172 :: c173 :: c174 :: c175 :: c176 :: c177 :: c178 :: c179 :: c180 :: c181 :: c182 :: c183 :: c184 :: c185 :: c186 :: c187 :: c188 :: c189 :: c190 :: c191 :: c192 :: c193 :: c194 :: c195 :: c196 :: c197 :: c198 :: c199 :: c200 :: c201 :: c202 :: c203 :: c204 :: c205 :: c206 :: c207 :: c208 :: c209 :: c210 :: c211 :: c212 :: c213 :: c214 :: c215 :: c216 :: c217 :: c218 :: c219 :: c220 :: c221 :: c222 :: c223 :: c224 :: c225 :: c226 :: c227 :: c228 :: c229 :: c230 :: c231 :: c232 :: c233 :: c234 :: c235 :: c236 :: c237 :: c238 :: c239 :: c240 :: c241 :: c242 :: c243 :: c244 :: c245 :: c246 :: c247 :: c248 :: c249 :: c250 :: c251 :: c252 :: c253 :: c254 :: c255 :: c256 :: c257 :: c258 :: c259 :: c260 :: c261 :: c262 :: c263 :: c264 :: c265 :: c266 :: c267 :: c268 :: c269 :: c270 :: c271 :: c272 :: c273 :: c274 :: c275 :: c276 :: c277 :: c278 :: c279 :: c280 :: c281 :: c282 :: c283 :: c284 :: c285 :: c286 :: c287 :: c288 :: c289 :: c290 :: c291 :: c292 :: c293 :: c294 :: c295 :: c296 :: c297 :: c298 :: c299 :: c300 :: c301 :: c302 :: c303 :: c304 :: c305 :: c306 :: c307 :: c308 :: c309 :: c310 :: c311 :: c312 :: []).toArray, []⟩ y)) :
    Code.wp Try.prog (Code.loop (nthLoop 0 Try.f12)) Q ⟨(.pointer (some ⟨p, 0, none⟩) :: .string tp :: .int .i64 pt :: c3 :: c4 :: c5 :: c6 :: c7 :: c8 :: c9 :: c10 :: c11 :: c12 :: c13 :: c14 :: .int .i64 (-1) :: .int .i64 0 :: c17 :: c18 :: c19 :: c20 :: c21 :: c22 :: c23 :: c24 :: c25 :: c26 :: c27 :: c28 :: d29 :: d30 :: d31 :: d32 :: d33 :: d34 :: d35 :: d36 :: d37 :: d38 :: d39 :: d40 :: d41 :: d42 :: d43 :: d44 :: d45 :: d46 :: d47 :: d48 :: d49 :: d50 :: d51 :: d52 :: d53 :: d54 :: d55 :: d56 :: d57 :: d58 :: d59 :: d60 :: c61 :: c62 :: c63 :: c64 :: c65 :: c66 :: c67 :: c68 :: c69 :: c70 :: c71 :: c72 :: c73 :: c74 :: c75 :: c76 :: c77 :: c78 :: c79 :: c80 :: c81 :: c82 :: c83 :: c84 :: c85 :: c86 :: c87 :: c88 :: c89 :: c90 :: c91 :: c92 :: c93 :: c94 :: c95 :: c96 :: c97 :: c98 :: c99 :: c100 :: c101 :: c102 :: c103 :: c104 :: c105 :: c106 :: c107 :: c108 :: c109 :: c110 :: c111 :: c112 :: c113 :: c114 :: c115 :: c116 :: c117 :: c118 :: c119 :: c120 :: c121 :: c122 :: c123 :: c124 :: c125 :: c126 :: c127 :: c128 :: c129 :: c130 :: c131 :: c132 :: c133 :: c134 :: c135 :: c136 :: c137 :: c138 :: c139 :: c140 :: c141 :: c142 :: c143 :: c144 :: c145 :: c146 :: c147 :: c148 :: c149 :: c150 :: c151 :: c152 :: c153 :: c154 :: c155 :: c156 :: c157 :: c158 :: c159 :: c160 :: c161 :: c162 :: c163 :: c164 :: c165 :: c166 :: c167 :: c168 :: c169 :: c170 :: c171 :: c172 :: c173 :: c174 :: c175 :: c176 :: c177 :: c178 :: c179 :: c180 :: c181 :: c182 :: c183 :: c184 :: c185 :: c186 :: c187 :: c188 :: c189 :: c190 :: c191 :: c192 :: c193 :: c194 :: c195 :: c196 :: c197 :: c198 :: c199 :: c200 :: c201 :: c202 :: c203 :: c204 :: c205 :: c206 :: c207 :: c208 :: c209 :: c210 :: c211 :: c212 :: c213 :: c214 :: c215 :: c216 :: c217 :: c218 :: c219 :: c220 :: c221 :: c222 :: c223 :: c224 :: c225 :: c226 :: c227 :: c228 :: c229 :: c230 :: c231 :: c232 :: c233 :: c234 :: c235 :: c236 :: c237 :: c238 :: c239 :: c240 :: c241 :: c242 :: c243 :: c244 :: c245 :: c246 :: c247 :: c248 :: c249 :: c250 :: c251 :: c252 :: c253 :: c254 :: c255 :: c256 :: c257 :: c258 :: c259 :: c260 :: c261 :: c262 :: c263 :: c264 :: c265 :: c266 :: c267 :: c268 :: c269 :: c270 :: c271 :: c272 :: c273 :: c274 :: c275 :: c276 :: c277 :: c278 :: c279 :: c280 :: c281 :: c282 :: c283 :: c284 :: c285 :: c286 :: c287 :: c288 :: c289 :: c290 :: c291 :: c292 :: c293 :: c294 :: c295 :: c296 :: c297 :: c298 :: c299 :: c300 :: c301 :: c302 :: c303 :: c304 :: c305 :: c306 :: c307 :: c308 :: c309 :: c310 :: c311 :: c312 :: []).toArray, []⟩ W := by
  have HC : Hid (∀ y, Below W.heap.size W y → Chk B y p vF vS (.slice g PL.length cp) FL SL PL S) := fun y hb => hc.below hb
  clear hc
  conv => arg 2; arg 1; whnf
  go_loopw [15, 16] (fun k i wr => ∃ (x : Int) (j : Nat), j ≤ PL.length ∧ i = .int .i64 j ∧ k = .int .i64 x ∧ posK PL (tp, pt) j x ∧ Below W.heap.size W wr) (fun _ i _ => PL.length - (intOf i).toNat)
  case atStart => exact ⟨-1, 0, by omega, rfl, rfl, .inl ⟨rfl, fun i y h => by omega⟩, Below.refl _ _⟩
  case round =>
    obtain ⟨x, j, hj, rfl, rfl, hpos, hb⟩ := hrel
    have HP : Hid (posK PL (tp, pt) j x) := hpos
    clear hpos
    have hck := HC.out wr hb
    obtain ⟨c0, c1, c2, c3⟩ := hck.cells
    by_cases hlt : j < PL.length
    · have hltI : (j : Int) < (PL.length : Int) := by omega
      obtain ⟨y, hy⟩ : ∃ y, PL[j]? = some y := ⟨_, List.getElem?_eq_getElem hlt⟩
      obtain ⟨g', cap', e, hBg, hgl, hcell⟩ := own_rowv cP 4 cP_len hck.oP (by omega)
      simp only [Value.slice.injEq, true_and] at e
      obtain ⟨rfl, rfl⟩ := e
      have d0 := hcell j y hy 0 _ rfl
      have d1 := hcell j y hy 1 _ rfl
      have HY : Hid (PL[j]? = some y) := hy
      clear hy hcell hck
      obtain ⟨⟨t, q⟩, s0, n0⟩ := y
      simp only [Nat.add_zero] at d0 d1
      go_wp2
      · rename_i h1 h2
        obtain rfl := strL h1
        obtain rfl : q = pt := by simpa using h2
        exact ⟨⟨j, j + 1, by omega, by go_num, rfl, .inr ⟨j, _, by omega, rfl, HY.out, rfl⟩, hb⟩, by simp [intOf]; omega⟩
      · rename_i h1 h2
        exact ⟨⟨x, j + 1, by omega, by go_num, rfl, HP.out.next HY.out (fun e => by injection e with e1 e2; simp [e2] at h2), hb⟩, by simp [intOf]; omega⟩
      · rename_i h1
        exact ⟨⟨x, j + 1, by omega, by go_num, rfl, HP.out.next HY.out (fun e => by injection e with e1 e2; exact h1 (by rw [e1])), hb⟩, by simp [intOf]; omega⟩
    · obtain rfl : j = PL.length := by omega
      go_wp2
      exact HX.out _ _ _ _ _ _ _ _ _ _ _ _ _ _ _ _ _ _ _ _ _ _ _ _ _ _ _ _ _ _ _ _ _ x wr HP.out hb
end Go.Proofs.Ytnnljdnaipjoiaa
