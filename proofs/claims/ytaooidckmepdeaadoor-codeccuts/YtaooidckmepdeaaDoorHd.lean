/- A head, number by number; the records' bytes. -/
import Derived.Test.YtaooidckmepdeaaDoorBl
import Derived.Test.YtaooidckmepdeaaDoorWi
import Derived.Test.YtaooidckmepdeaaDoorCs
namespace Go.Proofs.YtaooidckmepdeaaDoor
set_option linter.unusedSimpArgs false
set_option linter.unusedVariables false
open Go.RowKit
/-- A head. -/
def hd (b l s p q n c f : Nat) : List Nat := lay 8 b ++ (lay 4 l ++ (lay 4 s ++ (lay 8 p ++ (lay 8 q ++ (lay 4 n ++ (lay 4 c ++ lay 8 f))))))
theorem hd_zero : hd 0 0 0 0 0 0 0 0 = List.replicate 48 0 := by decide +kernel
theorem hd_len (b l s p q n c f : Nat) : (hd b l s p q n c f).length = 48 := by simp [hd, lay_len]
theorem hd_mem (b l s p q n c f : Nat) : ∀ x, x ∈ hd b l s p q n c f → x < 256 := by
  intro x hx
  simp only [hd, List.mem_append] at hx
  rcases hx with hx | hx | hx | hx | hx | hx | hx | hx <;> exact lay_mem _ _ x hx
theorem put_at {h A B C : List Nat} (i n V : Nat) (e : h = A ++ (B ++ C)) (hA : A.length = i) (hB : B.length = n) : putL h i n true V = A ++ (lay n V ++ C) := by
  rw [e, ← hA, put_mid A B C n V hB]
theorem hd_base (b l s p q n c f V : Nat) : putL (hd b l s p q n c f) 0 8 true V = hd V l s p q n c f := put_at (A := []) 0 8 V rfl rfl (lay_len _ _)
theorem hd_length (b l s p q n c f V : Nat) : putL (hd b l s p q n c f) 8 4 true V = hd b V s p q n c f := put_at (A := lay 8 b) 8 4 V rfl (lay_len _ _) (lay_len _ _)
theorem hd_sum (b l s p q n c f V : Nat) : putL (hd b l s p q n c f) 12 4 true V = hd b l V p q n c f := by
  rw [put_at (A := lay 8 b ++ lay 4 l) (B := lay 4 s) (C := lay 8 p ++ (lay 8 q ++ (lay 4 n ++ (lay 4 c ++ lay 8 f)))) 12 4 V (by simp [hd]) (by simp [lay_len]) (lay_len _ _)]
  simp [hd]
theorem hd_prod (b l s p q n c f V : Nat) : putL (hd b l s p q n c f) 16 8 true V = hd b l s V q n c f := by
  rw [put_at (A := lay 8 b ++ (lay 4 l ++ lay 4 s)) (B := lay 8 p) (C := lay 8 q ++ (lay 4 n ++ (lay 4 c ++ lay 8 f))) 16 8 V (by simp [hd]) (by simp [lay_len]) (lay_len _ _)]
  simp [hd]
theorem hd_seq (b l s p q n c f V : Nat) : putL (hd b l s p q n c f) 24 8 true V = hd b l s p V n c f := by
  rw [put_at (A := lay 8 b ++ (lay 4 l ++ (lay 4 s ++ lay 8 p))) (B := lay 8 q) (C := lay 4 n ++ (lay 4 c ++ lay 8 f)) 24 8 V (by simp [hd]) (by simp [lay_len]) (lay_len _ _)]
  simp [hd]
theorem hd_span (b l s p q n c f V : Nat) : putL (hd b l s p q n c f) 32 4 true V = hd b l s p q V c f := by
  rw [put_at (A := lay 8 b ++ (lay 4 l ++ (lay 4 s ++ (lay 8 p ++ lay 8 q)))) (B := lay 4 n) (C := lay 4 c ++ lay 8 f) 32 4 V (by simp [hd]) (by simp [lay_len]) (lay_len _ _)]
  simp [hd]
theorem hd_cnt (b l s p q n c f V : Nat) : putL (hd b l s p q n c f) 36 4 true V = hd b l s p q n V f := by
  rw [put_at (A := lay 8 b ++ (lay 4 l ++ (lay 4 s ++ (lay 8 p ++ (lay 8 q ++ lay 4 n))))) (B := lay 4 c) (C := lay 8 f) 36 4 V (by simp [hd]) (by simp [lay_len]) (lay_len _ _)]
  simp [hd]
theorem hd_first (b l s p q n c f V : Nat) : putL (hd b l s p q n c f) 40 8 true V = hd b l s p q n c V := by
  rw [put_at (A := lay 8 b ++ (lay 4 l ++ (lay 4 s ++ (lay 8 p ++ (lay 8 q ++ (lay 4 n ++ lay 4 c)))))) (B := lay 8 f) (C := []) 40 8 V (by simp [hd]) (by simp [lay_len]) (lay_len _ _)]
  simp [hd]
theorem hd_drop (b l s p q n c f : Nat) : (hd b l s p q n c f).drop 16 = midL p q n c f := by
  have : hd b l s p q n c f = headL b l s ++ midL p q n c f := by simp [hd, headL, midL]
  rw [this]
  exact List.drop_left' (head_len _ _ _)
theorem hd_enc (b : Ba) : hd b.base.toNat ((tailL b).length + 4) (P.sum (tailL b)) b.prod.toNat b.seq.toNat b.span.toNat b.rs.length (frs b).toNat ++ bodyL b.rs (frs b) = encBL b := by
  simp [hd, encBL, headL, tailL, midL]
/-- One more number. -/
def Sets (h h' : List Nat) (i n V : Nat) : Prop := ∀ w, Calls Tryd.prog 90 #[av h, .int .i64 (i : Int), .int .i64 (n : Int), .int .i64 (V : Int)] w fun e w' => e = .returned (av h') ∧ Below w.heap.size w w'
theorem sets_of {b l s p q n c f : Nat} {h' : List Nat} {i k V : Nat} (hp : putL (hd b l s p q n c f) i k true V = h') (h1 : 1 ≤ k) (h2 : k ≤ 8) (h3 : i + k ≤ 48) (hV : V ≤ 9223372036854775807) : Sets (hd b l s p q n c f) h' i k V := fun w => by
  rw [← hp]
  exact with_in _ i k V w (hd_len _ _ _ _ _ _ _ _) (lt_mem (hd_mem _ _ _ _ _ _ _ _)) h1 h2 h3 hV
theorem owns_below {w w' : World} {base e size n : Nat} {v : Value} {xs : List Value} (h : w.ownsRow base e size v n xs) (hb : Below w.heap.size w w') : w'.ownsRow base e size v n xs := by
  refine ⟨h.1, ?_⟩
  rcases h.2 with q | ⟨g, cap, cur, e1, hB, hg, r⟩
  · exact .inl q
  · exact .inr ⟨g, cap, cur, e1, hB, (hb.block g (Array.getElem?_eq_some_iff.1 hg).1).trans hg, r⟩
theorem body_take (rs : List Rc) (first : Int) (k : Nat) (h : k < rs.length) : bodyL (rs.take (k + 1)) first = bodyL (rs.take k) first ++ encL (rs.getD k rz) first := by
  rw [List.take_succ_eq_append_getElem h, body_app, body_cons, body_nil, List.append_nil]
  simp [List.getD, h]
/-- A record whose bytes are made. -/
def Enc (f : Nat) (r : Rc) (first : Int) : Prop := ∀ w, Calls Tryd.prog f #[.agg r.cells, .int .i64 first] w fun e w' => ∃ a c, e = .returned (.tuple #[.slice a (encL r first).length c, .int .i64 0]) ∧ Row w' a (encL r first) ∧ (a = none → c = 0) ∧ Below w.heap.size w w'
theorem enc_of {r : Rc} {first : Int} (hc : chk r = 0) (hf : timeB first = true) : Enc 103 r first := fun w => by
  have hE : encE r first = 0 := by simp [encE, hc, hf]
  have hR : encR r first = encL r first := by simp [encR, hE]
  refine (encode_any r first w).mono ?_
  rintro e w' ⟨v, rfl, hown, hb⟩
  rw [hR] at hown
  obtain ⟨a, c, rfl, hr, hn⟩ := owns_sl hown (encL_lt r first hc hf)
  exact ⟨a, c, by rw [hE], hr, hn, hb⟩
set_option maxHeartbeats 800000 in
set_option maxRecDepth 100000 in
theorem body_any (a : Option Addr) (cap : Nat) (rs : List Rc) (first : Int) (w : World) (hr : RRow w a rs) (hl : rs.length ≤ 100) (hc : ∀ r, r ∈ rs → chk r = 0) (hf : timeB first = true) :
    Calls Tryd.prog 89 #[.slice a rs.length cap, .int .i64 first] w fun e w' => ∃ v, e = .returned v ∧ w'.ownsRow w.heap.size 5 1 v (bodyL rs first).length (cv (bodyL rs first)) ∧ Below w.heap.size w w' := by
  obtain ⟨F, HF⟩ : ∃ F : Nat → List Nat, Hid (∀ k, bodyL (rs.take k) first = F k) := ⟨_, fun _ => rfl⟩
  have HS : Hid (∀ k, k < rs.length → F (k + 1) = F k ++ encL (rs.getD k rz) first) := fun k hk => by rw [← HF.out, ← HF.out]; exact body_take rs first k hk
  have hF0 : F 0 = [] := by rw [← HF.out]; rfl
  have HA : Hid (F rs.length = bodyL rs first) := by show _ = _; rw [← HF.out, List.take_length]
  have HFl : Hid (∀ k, (F k).length ≤ 500000) := fun k => by
    rw [← HF.out]
    refine Nat.le_trans (body_len first (fun r hr => hc r (List.mem_of_mem_take hr))) ?_
    rw [List.length_take]
    omega
  have HEn : Hid (∀ k, k < rs.length → Enc 103 (rs.getD k rz) first) := fun k hk => enc_of (hc _ (getD_mem hk)) hf
  have HEL : Hid (∀ k, k < rs.length → (encL (rs.getD k rz) first).length ≤ 5000) := fun k hk => by
    obtain ⟨_, _, _, _, k1, v1, _⟩ := chk_ok (hc _ (getD_mem hk))
    exact encL_len _ first k1 v1
  rw [← HA.out]
  have HR0 : Hid (RRow w a rs) := hr
  clear hc hf hr
  go_enter Tryd.func89, Tryd.ntmps89
  go_wp2_with fail
  go_loopw [4, 11] (fun v i wr => ∃ k : Nat, k ≤ rs.length ∧ i = .int .i64 k ∧ wr.ownsRow w.heap.size 5 1 v (F k).length (cv (F k)) ∧ Below w.heap.size w wr) (fun _ i _ => rs.length - (intOf i).toNat)
  case atStart => exact ⟨0, by omega, rfl, by rw [hF0]; exact World.ownsRow_nil _ _ _ _, Below.refl _ _⟩
  case round =>
    obtain ⟨k, hk, rfl, hown, hb⟩ := hrel
    by_cases hlt : k < rs.length
    · have hltI : (k : Int) < (rs.length : Int) := by omega
      have HE := HEn.out k hlt
      have HL : Hid (F (k + 1) = F k ++ encL (rs.getD k rz) first) := HS.out k hlt
      have h5 := HFl.out k
      have h6 := HEL.out k hlt
      obtain ⟨b, off, rfl, z0, z1, z2, z3, z4, z5⟩ := (RRow.below HR0.out hb) k hlt
      have hbz := World.block_lt_of_cell? _ _ z0
      simp only at hbz
      have HBB : Hid (∀ cs, Below wr.heap.size wr (wr.alloc (.cells cs 87))) := fun cs => below_box _
      have hz3 : w.heap.size ≤ wr.heap.size := hb.size
      unfold Enc at HE
      generalize rs.getD k rz = r at *
      generalize encL r first = L at *
      have HEn2 : Hid _ := HE
      clear HE
      obtain ⟨hk', kk, hv, v, t, o⟩ := r
      simp only at z0 z1 z2 z3 z4 z5
      simp only [Rc.cells] at HEn2
      go_wp2_with (first
        | (go_at_call 103; refine (HEn2.out _).mono ?_; rintro e w4 ⟨a4, c4, rfl, hr4, hn4, hb4⟩; have hown4 := owns_below hown ((HBB.out _).trans (hb4.mono (by simp))); have hbel4 := hb.trans (((HBB.out _).trans (hb4.mono (by simp))).mono hz3); have HZ4 := hbel4.size; clear hb4)
        | (at_builtin; refine wpList_append_row (by rfl) _ _ rfl w.heap.size w _ _ _ rfl hown4 hbel4 HZ4 a4 c4 L rfl hr4 hn4 (by omega) ?_; intro v5 w5 hown5 hbel5))
      refine ⟨⟨k + 1, by omega, by go_num, by rw [HL.out, List.length_append, cv_append]; exact hown5, hbel5⟩, by simp [intOf]; omega⟩
    · obtain rfl : k = rs.length := by omega
      go_wp2_with fail
      go_ret
      exact ⟨_, rfl, hown, hb⟩
end Go.Proofs.YtaooidckmepdeaaDoor
