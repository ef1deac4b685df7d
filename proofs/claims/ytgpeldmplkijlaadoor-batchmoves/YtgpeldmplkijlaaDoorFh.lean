/- Fresh. -/
import Derived.Test.YtgpeldmplkijlaaDoorRo
import Derived.Test.YtgpeldmplkijlaaDoorBe
namespace Go.Proofs.YtgpeldmplkijlaaDoor
set_option linter.unusedSimpArgs false
set_option linter.unusedVariables false
open Go.RowKit
def num (r : Rc) (i : Nat) : Rc := ⟨r.hk, r.k, r.hv, r.v, r.t, (i : Int)⟩
/-- The first k are numbered. -/
def numL (k : Nat) (rs : List Rc) : List Rc := (List.range rs.length).map fun i => if i < k then num (rs.getD i rz) i else rs.getD i rz
theorem numL_len (k : Nat) (rs : List Rc) : (numL k rs).length = rs.length := by simp [numL]
theorem numL_get (k : Nat) (rs : List Rc) (i : Nat) (h : i < rs.length) : (numL k rs).getD i rz = if i < k then num (rs.getD i rz) i else rs.getD i rz := by simp [numL, List.getD, h]
theorem numL_zero (rs : List Rc) : numL 0 rs = rs := by
  apply List.ext_getElem
  · simp [numL]
  · intro i h1 h2
    simp [numL, List.getD, h2]
theorem numL_step (k : Nat) (rs : List Rc) (h : k < rs.length) : rcv (numL (k + 1) rs) = (rcv (numL k rs)).set (k * 6 + 5) (.int .i64 (k : Int)) := by
  apply List.ext_getElem?
  intro j
  by_cases hj : j < rs.length * 6
  · have hd : j = j / 6 * 6 + j % 6 := by omega
    have hm : j % 6 < 6 := Nat.mod_lt _ (by decide)
    have hi : j / 6 < rs.length := by omega
    by_cases he : k * 6 + 5 = j
    · rw [← he, List.getElem?_set_self (by rw [rcv_len, numL_len]; omega), rcv_get _ k 5 (by rw [numL_len]; exact h) (by decide), numL_get _ _ _ h, if_pos (by omega)]
      rfl
    · rw [List.getElem?_set_ne he]
      rw [hd, rcv_get _ _ _ (by rw [numL_len]; exact hi) hm, rcv_get _ _ _ (by rw [numL_len]; exact hi) hm, numL_get _ _ _ hi, numL_get _ _ _ hi]
      by_cases hk : j / 6 = k
      · have h5 : j % 6 ≠ 5 := by omega
        rw [if_pos (by omega), if_neg (by omega)]
        generalize j % 6 = m at *
        match m, hm, h5 with
        | 0, _, _ => rfl
        | 1, _, _ => rfl
        | 2, _, _ => rfl
        | 3, _, _ => rfl
        | 4, _, _ => rfl
        | m + 5, hm, h5 => omega
      · by_cases hlt : j / 6 < k
        · rw [if_pos (by omega), if_pos hlt]
        · rw [if_neg (by omega), if_neg hlt]
  · rw [List.getElem?_eq_none (by rw [rcv_len, numL_len]; omega), List.getElem?_eq_none (by rw [List.length_set, rcv_len, numL_len]; omega)]
def bz : Ba := ⟨0, 0, 0, 0, []⟩
/-- The batch that Fresh makes. -/
def frB (base prod seq : Int) (rs : List Rc) : Ba := ⟨base, max 1 (rs.length : Int), prod, seq, numL rs.length rs⟩
def frR (base prod seq : Int) (rs : List Rc) : Ba := if chkB (frB base prod seq rs) = 0 then frB base prod seq rs else bz
structure FrS (w : World) (X g cap : Nat) (cs : Array Value) (rs : List Rc) (x : World) : Prop where
  own : x.ownsRow (w.heap.size + 1) 58 6 (.slice (some ⟨g, 0, none⟩) rs.length cap) rs.length (rcv rs)
  box : x.heap[X]? = some (.cells cs 24 (0, 0))
  res : x.heap[w.heap.size]? = some (.cells #[.int .i64 0, .int .i64 0, .int .i64 0, .int .i64 0, .slice none 0 0] 24 (0, 0))
  bel : Below w.heap.size w x
  lt : g < X
theorem FrS.store {w x : World} {X g cap : Nat} {cs : Array Value} {rs : List Rc} {k : Nat} (h : FrS w X g cap cs (numL k rs) x) (hk : k < rs.length) : FrS w X g cap cs (numL (k + 1) rs) (x.setCell ⟨g, k * 6 + 5, none⟩ (.int .i64 (k : Int))) := by
  have hg := h.own.lt g rfl
  have hlt := h.lt
  have hst := (h.own.stored (k * 6 + 5) (.int .i64 (k : Int))).1
  have hb := (Below.refl g x).setCell (p := ⟨g, k * 6 + 5, none⟩) (Nat.le_refl g) (.int .i64 (k : Int))
  have ho : ∀ j, j ≠ g → (x.setCell ⟨g, k * 6 + 5, none⟩ (.int .i64 (k : Int))).heap[j]? = x.heap[j]? := by
    intro j hj
    unfold World.setCell
    simp [Array.getElem?_modify, Ne.symm hj]
  refine ⟨?_, by rw [ho _ (by omega)]; exact h.box, by rw [ho _ (by omega)]; exact h.res, h.bel.setCell (p := ⟨g, k * 6 + 5, none⟩) (by show _ ≤ g; omega) _, hlt⟩
  rw [numL_step k rs hk, numL_len]
  rw [numL_len] at hst
  exact hst
theorem FrS.cells {w x : World} {X g cap n : Nat} {rs : List Rc} {a : Option Addr} {c0 c1 c2 c3 : Int} {c : Nat} (h : FrS w X g cap #[.int .i64 c0, .int .i64 c1, .int .i64 c2, .int .i64 c3, .slice a n c] rs x) :
    x.cell? ⟨X, 0, none⟩ = some (.int .i64 c0) ∧ x.cell? ⟨X, 1, none⟩ = some (.int .i64 c1) ∧ x.cell? ⟨X, 2, none⟩ = some (.int .i64 c2) ∧ x.cell? ⟨X, 3, none⟩ = some (.int .i64 c3) ∧ x.cell? ⟨X, 4, none⟩ = some (.slice a n c) ∧ X < x.heap.size := by
  have hc : ∀ j, x.cell? ⟨X, j, none⟩ = _ := fun j => cell_of_row _ X j _ 24 (0, 0) h.box
  exact ⟨by rw [hc]; rfl, by rw [hc]; rfl, by rw [hc]; rfl, by rw [hc]; rfl, by rw [hc]; rfl, (Array.getElem?_eq_some_iff.1 h.box).1⟩
theorem Tryd.info24 : (Tryd.prog.info? 24).map (·.size) = some 5 := by kernel_rfl
theorem owns_someR {w : World} {B n : Nat} {v : Value} {xs : List Value} (h : w.ownsRow B 58 6 v n xs) (h0 : 0 < n) : ∃ g cap, v = .slice (some ⟨g, 0, none⟩) n cap ∧ g < w.heap.size ∧ B ≤ g ∧ n ≤ cap := by
  rcases h.2 with ⟨rfl, e⟩ | ⟨g, cap, cur, rfl, hB, hg, hle, _⟩
  · omega
  · exact ⟨g, cap, rfl, (Array.getElem?_eq_some_iff.1 hg).1, hB, hle⟩
theorem FrS.new {w w1 : World} {g cap : Nat} {cs : Array Value} {rs : List Rc} (hown : w1.ownsRow (w.alloc (.cells #[.int .i64 0, .int .i64 0, .int .i64 0, .int .i64 0, .slice none 0 0] 24)).heap.size 58 6 (.slice (some ⟨g, 0, none⟩) rs.length cap) rs.length (rcv rs)) (hb : Below (w.alloc (.cells #[.int .i64 0, .int .i64 0, .int .i64 0, .int .i64 0, .slice none 0 0] 24)).heap.size (w.alloc (.cells #[.int .i64 0, .int .i64 0, .int .i64 0, .int .i64 0, .slice none 0 0] 24)) w1) (hg : g < w1.heap.size) : FrS w w1.heap.size g cap cs (numL 0 rs) (w1.alloc (.cells cs 24)) := by
  have h1 : Below w.heap.size w w1 := (below_box _).trans (hb.mono (by simp))
  have hz : w.heap.size < w1.heap.size := by have := hb.size; simp at this; omega
  refine ⟨?_, heap_alloc_new w1 _, ?_, h1.alloc h1.size _, hg⟩
  · rw [numL_zero]
    have := owns_below hown (below_box (w := w1) (.cells cs 24))
    simpa using this
  · rw [(below_box (w := w1) (.cells cs 24)).block w.heap.size hz, hb.block w.heap.size (by simp)]
    exact heap_alloc_new w _
theorem FrS.below {w x y : World} {X g cap : Nat} {cs : Array Value} {rs : List Rc} (h : FrS w X g cap cs rs x) (hb : Below x.heap.size x y) : FrS w X g cap cs rs y :=
  ⟨owns_below h.own hb, (hb.block _ (Array.getElem?_eq_some_iff.1 h.box).1).trans h.box, (hb.block _ (Array.getElem?_eq_some_iff.1 h.res).1).trans h.res, h.bel.trans (hb.mono h.bel.size), h.lt⟩
theorem FrS.rrow {w x : World} {X g cap : Nat} {cs : Array Value} {rs : List Rc} (h : FrS w X g cap cs rs x) : RRow x (some ⟨g, 0, none⟩) rs := by
  obtain ⟨a, c, e, hr, _⟩ := owns_rrow h.own
  injection e with e1 e2 e3
  rw [e1]
  exact hr
theorem results_bat {fn : Func} {p u : Tmp} (h : fn.results = #[.cell p 24, .tmp u]) (tmps : Array Value) (w : World) (g : Nat) (cs : Array Value) (v : Value) (hp : tmps.getD p undef = .pointer (some ⟨g, 0, none⟩)) (hv : tmps.getD u undef = v) (hi : cs.size = 5) (hg : w.heap[g]? = some (.cells cs 24 (0, 0))) :
    (results fn tmps).run Tryd.prog w = .ok (.tuple #[.agg cs, v]) w := by
  have h2 := run_loadVar_row (P := Tryd.prog) w g 24 24 cs (0, 0) _ hg Tryd.underlying24 rfl (by rw [hi]; exact Tryd.info24)
  subst hv
  rw [results_cell_tmp h, hp]
  simp [asAddr, h2, Result.andThen]
theorem bat_one (c0 c1 c2 c3 : Int) (a : Option Addr) (n c : Nat) : (#[.int .i64 c0, .int .i64 c1, .int .i64 c2, .int .i64 c3, .slice a n c] : Array Value).all (·.oneCell') = true := by simp [Value.oneCell']
theorem cell_setRow_ne {w : World} {R b o : Nat} {cs : Array Value} (h : b ≠ R) : (w.setRow R cs).cell? ⟨b, o, none⟩ = w.cell? ⟨b, o, none⟩ := by
  unfold World.cell?
  rw [setRow_other w R b cs h]
theorem RRow.keep {w : World} {g R : Nat} {rs : List Rc} {cs : Array Value} (h : RRow w (some ⟨g, 0, none⟩) rs) (hg : g ≠ R) : RRow (w.setRow R cs) (some ⟨g, 0, none⟩) rs := by
  intro i hi
  obtain ⟨b, off, e, h0, h1, h2, h3, h4, h5⟩ := h i hi
  have hbM : b ≠ R := by
    simp only [Option.some.injEq, Addr.mk.injEq, and_true] at e
    omega
  exact ⟨b, off, e, (cell_setRow_ne hbM).trans h0, (cell_setRow_ne hbM).trans h1, (cell_setRow_ne hbM).trans h2, (cell_setRow_ne hbM).trans h3, (cell_setRow_ne hbM).trans h4, (cell_setRow_ne hbM).trans h5⟩
set_option maxHeartbeats 1600000 in
set_option maxRecDepth 100000 in
theorem fresh_more (base prod seq : Int) (a : Option Addr) (cap : Nat) (rs : List Rc) (w : World) (hr : RRow w a rs) (hl : rs.length ≤ 1000) (hn : a = none → cap = 0) (ht : Tab w) (hp : prod ≤ 9223372036854775807) (hs : seq ≤ 9223372036854775807) (hpos : 0 < rs.length) (hone : (1 : Int) < (rs.length : Int)) :
    Calls Tryd.prog 23 #[.int .i64 base, .int .i64 prod, .int .i64 seq, .slice a rs.length cap] w fun e w' => ∃ a' c', e = .returned (.tuple #[bav (frR base prod seq rs) a' c', .int .i64 (chkB (frB base prod seq rs))]) ∧ RRow w' a' (frR base prod seq rs).rs ∧ (a' = none → c' = 0) ∧ Below w.heap.size w w' := by
  have HCL : Hid (∀ x, RRow x a rs → Calls Tryd.prog 45 #[.slice a rs.length cap] x fun e w' => ∃ v, e = .returned v ∧ w'.ownsRow x.heap.size 58 6 v rs.length (rcv rs) ∧ Below x.heap.size x w') := fun x hx => cloneR_any a cap rs x hx hl hn
  have hsp : max 1 (rs.length : Int) = (rs.length : Int) := by omega
  have HFB : Hid (frB base prod seq rs = ⟨base, (rs.length : Int), prod, seq, numL rs.length rs⟩) := by show _ = _; unfold frB; rw [hsp]
  have HCK : Hid (∀ x a' c', Tab x → RRow x a' (numL rs.length rs) → Calls Tryd.prog 16 #[.agg #[.int .i64 base, .int .i64 (rs.length : Int), .int .i64 prod, .int .i64 seq, .slice a' rs.length c']] x fun e w' => e = .returned (.int .i64 (chkB (frB base prod seq rs))) ∧ Below x.heap.size x w') := by
    intro x a' c' h1 h2
    have := bcheck_any (frB base prod seq rs) a' c' x ⟨hp, hs⟩ (by show (numL _ _).length ≤ _; rw [numL_len]; unfold maxLen; omega) h1 h2
    rw [show bav (frB base prod seq rs) a' c' = .agg #[.int .i64 base, .int .i64 (rs.length : Int), .int .i64 prod, .int .i64 seq, .slice a' rs.length c'] by rw [HFB.out]; simp only [bav, numL_len]] at this
    exact this
  have HR0 : Hid (RRow w a rs) := hr
  have HT : Hid (Tab w) := ht
  have HFR : Hid (frR base prod seq rs = if chkB (frB base prod seq rs) = 0 then frB base prod seq rs else bz) := rfl
  generalize chkB (frB base prod seq rs) = ck at *
  generalize frR base prod seq rs = R at *
  rw [HFB.out] at HFR
  clear hr ht HFB hsp
  go_enter Tryd.func23, Tryd.ntmps23
  go_wp2_with (go_at_call 45; refine (HCL.out _ (RRow.below HR0.out (below_box _))).mono ?_; rintro e w1 ⟨v1, rfl, hown1, hb1⟩; obtain ⟨g, cap1, rfl, hg1, hg2, hcap⟩ := owns_someR hown1 hpos; have HT1 : Hid (Tab w1) := Tab.below (Tab.below HT.out (below_box _)) hb1; have HF0 : Hid (FrS w w1.heap.size g cap1 #[.int .i64 base, .int .i64 (rs.length : Int), .int .i64 prod, .int .i64 seq, .slice (some ⟨g, 0, none⟩) rs.length cap1] (numL 0 rs) (w1.alloc (.cells #[.int .i64 base, .int .i64 (rs.length : Int), .int .i64 prod, .int .i64 seq, .slice (some ⟨g, 0, none⟩) rs.length cap1] 24))) := FrS.new hown1 hb1 hg1; clear hown1 hb1)
  have HTX : Hid (∀ x, FrS w w1.heap.size g cap1 #[.int .i64 base, .int .i64 (rs.length : Int), .int .i64 prod, .int .i64 seq, .slice (some ⟨g, 0, none⟩) rs.length cap1] (numL rs.length rs) x → Tab x) := fun x h => Tab.below HT.out h.bel
  go_loopw [25] (fun i x => ∃ k : Nat, k ≤ rs.length ∧ i = .int .i64 k ∧ FrS w w1.heap.size g cap1 #[.int .i64 base, .int .i64 (rs.length : Int), .int .i64 prod, .int .i64 seq, .slice (some ⟨g, 0, none⟩) rs.length cap1] (numL k rs) x) (fun i _ => rs.length - (intOf i).toNat)
  case atStart => exact ⟨0, by omega, rfl, HF0.out⟩
  case round =>
    clear HF0
    obtain ⟨k, hk, rfl, hF⟩ := hrel
    obtain ⟨c0, c1, c2, c3, c4, cz⟩ := FrS.cells hF
    by_cases hlt : k < rs.length
    · have hltI : (k : Int) < (rs.length : Int) := by omega
      have hcel := hF.own.cellAt (k * 6 + 5) (by rw [numL_len]; omega)
      rw [rcv_get _ k 5 (by rw [numL_len]; exact hlt) (by decide)] at hcel
      have hfr := hF.own.frozenAt (k * 6 + 5)
      have hcel2 : wr.cell? ⟨g, k * 6 + 5, none⟩ = some (.int .i64 ((numL k rs).getD k rz).o) := hcel
      have HS : Hid (FrS w w1.heap.size g cap1 #[.int .i64 base, .int .i64 (rs.length : Int), .int .i64 prod, .int .i64 seq, .slice (some ⟨g, 0, none⟩) rs.length cap1] (numL (k + 1) rs) (wr.setCell ⟨g, k * 6 + 5, none⟩ (.int .i64 (k : Int)))) := FrS.store hF hlt
      have hgx : g < wr.heap.size := by have := hF.lt; omega
      clear hcel hF
      generalize ((numL k rs).getD k rz).o = oo at *
      go_wp2_with fail
      exact ⟨⟨k + 1, by omega, by go_num, HS.out⟩, by simp [intOf]; omega⟩
    · obtain rfl : k = rs.length := by omega
      have HF : Hid (FrS w w1.heap.size g cap1 #[.int .i64 base, .int .i64 (rs.length : Int), .int .i64 prod, .int .i64 seq, .slice (some ⟨g, 0, none⟩) rs.length cap1] (numL rs.length rs) wr) := hF
      have HRR : Hid (RRow wr (some ⟨g, 0, none⟩) (numL rs.length rs)) := FrS.rrow hF
      clear hF
      by_cases hck : ck = 0
      · subst hck
        have hRe : R = ⟨base, (rs.length : Int), prod, seq, numL rs.length rs⟩ := by rw [HFR.out, if_pos rfl]
        subst hRe
        go_wp2_with (first
          | (go_at_call 16; refine (HCK.out _ _ _ (HTX.out _ HF.out) HRR.out).mono ?_; rintro e w3 ⟨rfl, hb3⟩; have HF3 : Hid (FrS w w1.heap.size g cap1 #[.int .i64 base, .int .i64 (rs.length : Int), .int .i64 prod, .int .i64 seq, .slice (some ⟨g, 0, none⟩) rs.length cap1] (numL rs.length rs) w3) := FrS.below HF.out hb3; clear c0 c1 c2 c3 c4 cz hb3; obtain ⟨c0, c1, c2, c3, c4, cz⟩ := FrS.cells HF3.out)
          | (have _t := HF3; refine wpList_store_row rfl 24 _ _ rfl w.heap.size #[.int .i64 base, .int .i64 (rs.length : Int), .int .i64 prod, .int .i64 seq, .slice (some ⟨g, 0, none⟩) rs.length cap1] rfl rfl 24 _ HF3.out.res Tryd.info24 rfl (bat_one _ _ _ _ _ _ _) ?_))
        refine bodyPost_ret (v := .tuple #[.agg #[.int .i64 base, .int .i64 (rs.length : Int), .int .i64 prod, .int .i64 seq, .slice (some ⟨g, 0, none⟩) rs.length cap1], .int .i64 0]) ?_ rfl ⟨some ⟨g, 0, none⟩, cap1, ?_, ?_, (fun c => by cases c), ?_⟩
        · exact results_bat (p := 8) (u := 9) (by rfl) _ _ w.heap.size _ _ (by rfl) (by rfl) rfl (setRow_heap _ _ _ _ _ _ HF3.out.res)
        · simp only [bav, numL_len]
        · exact RRow.keep (FrS.rrow HF3.out) (by have := (HF3.out.own.lt g rfl).1; omega)
        · exact below_setRow HF3.out.bel (Nat.le_refl _) _
      · have hck' : (ck != 0) = true := by rw [bne_iff_ne]; exact hck
        have hRe : R = bz := by rw [HFR.out, if_neg hck]
        subst hRe
        go_wp2_with (first
          | (go_at_call 16; refine (HCK.out _ _ _ (HTX.out _ HF.out) HRR.out).mono ?_; rintro e w3 ⟨rfl, hb3⟩; have HF3 : Hid (FrS w w1.heap.size g cap1 #[.int .i64 base, .int .i64 (rs.length : Int), .int .i64 prod, .int .i64 seq, .slice (some ⟨g, 0, none⟩) rs.length cap1] (numL rs.length rs) w3) := FrS.below HF.out hb3; clear c0 c1 c2 c3 c4 cz hb3; obtain ⟨c0, c1, c2, c3, c4, cz⟩ := FrS.cells HF3.out)
          | (have _t := HF3; refine wpList_store_row rfl 24 _ _ rfl w.heap.size #[.int .i64 0, .int .i64 0, .int .i64 0, .int .i64 0, .slice none 0 0] rfl rfl 24 _ HF3.out.res Tryd.info24 rfl (bat_one _ _ _ _ _ _ _) ?_))
        refine bodyPost_ret (v := .tuple #[.agg #[.int .i64 0, .int .i64 0, .int .i64 0, .int .i64 0, .slice none 0 0], .int .i64 ck]) ?_ rfl ⟨none, 0, rfl, RRow.nil _ _, (fun _ => rfl), ?_⟩
        · exact results_bat (p := 8) (u := 9) (by rfl) _ _ w.heap.size _ _ (by rfl) (by rfl) rfl (setRow_heap _ _ _ _ _ _ HF3.out.res)
        · exact below_setRow HF3.out.bel (Nat.le_refl _) _
set_option maxHeartbeats 1600000 in
set_option maxRecDepth 100000 in
theorem fresh_one (base prod seq : Int) (a : Option Addr) (cap : Nat) (rs : List Rc) (w : World) (hr : RRow w a rs) (hl : rs.length ≤ 1000) (hn : a = none → cap = 0) (ht : Tab w) (hp : prod ≤ 9223372036854775807) (hs : seq ≤ 9223372036854775807) (hpos : 0 < rs.length) (hone : ¬ (1 : Int) < (rs.length : Int)) :
    Calls Tryd.prog 23 #[.int .i64 base, .int .i64 prod, .int .i64 seq, .slice a rs.length cap] w fun e w' => ∃ a' c', e = .returned (.tuple #[bav (frR base prod seq rs) a' c', .int .i64 (chkB (frB base prod seq rs))]) ∧ RRow w' a' (frR base prod seq rs).rs ∧ (a' = none → c' = 0) ∧ Below w.heap.size w w' := by
  have HCL : Hid (∀ x, RRow x a rs → Calls Tryd.prog 45 #[.slice a rs.length cap] x fun e w' => ∃ v, e = .returned v ∧ w'.ownsRow x.heap.size 58 6 v rs.length (rcv rs) ∧ Below x.heap.size x w') := fun x hx => cloneR_any a cap rs x hx hl hn
  have hsp : max 1 (rs.length : Int) = 1 := by omega
  have HFB : Hid (frB base prod seq rs = ⟨base, 1, prod, seq, numL rs.length rs⟩) := by show _ = _; unfold frB; rw [hsp]
  have HCK : Hid (∀ x a' c', Tab x → RRow x a' (numL rs.length rs) → Calls Tryd.prog 16 #[.agg #[.int .i64 base, .int .i64 1, .int .i64 prod, .int .i64 seq, .slice a' rs.length c']] x fun e w' => e = .returned (.int .i64 (chkB (frB base prod seq rs))) ∧ Below x.heap.size x w') := by
    intro x a' c' h1 h2
    have := bcheck_any (frB base prod seq rs) a' c' x ⟨hp, hs⟩ (by show (numL _ _).length ≤ _; rw [numL_len]; unfold maxLen; omega) h1 h2
    rw [show bav (frB base prod seq rs) a' c' = .agg #[.int .i64 base, .int .i64 1, .int .i64 prod, .int .i64 seq, .slice a' rs.length c'] by rw [HFB.out]; simp only [bav, numL_len]] at this
    exact this
  have HR0 : Hid (RRow w a rs) := hr
  have HT : Hid (Tab w) := ht
  have HFR : Hid (frR base prod seq rs = if chkB (frB base prod seq rs) = 0 then frB base prod seq rs else bz) := rfl
  generalize chkB (frB base prod seq rs) = ck at *
  generalize frR base prod seq rs = R at *
  rw [HFB.out] at HFR
  clear hr ht HFB hsp
  go_enter Tryd.func23, Tryd.ntmps23
  go_wp2_with (go_at_call 45; refine (HCL.out _ (RRow.below HR0.out (below_box _))).mono ?_; rintro e w1 ⟨v1, rfl, hown1, hb1⟩; obtain ⟨g, cap1, rfl, hg1, hg2, hcap⟩ := owns_someR hown1 hpos; have HT1 : Hid (Tab w1) := Tab.below (Tab.below HT.out (below_box _)) hb1; have HF0 : Hid (FrS w w1.heap.size g cap1 #[.int .i64 base, .int .i64 1, .int .i64 prod, .int .i64 seq, .slice (some ⟨g, 0, none⟩) rs.length cap1] (numL 0 rs) (w1.alloc (.cells #[.int .i64 base, .int .i64 1, .int .i64 prod, .int .i64 seq, .slice (some ⟨g, 0, none⟩) rs.length cap1] 24))) := FrS.new hown1 hb1 hg1; clear hown1 hb1)
  have HTX : Hid (∀ x, FrS w w1.heap.size g cap1 #[.int .i64 base, .int .i64 1, .int .i64 prod, .int .i64 seq, .slice (some ⟨g, 0, none⟩) rs.length cap1] (numL rs.length rs) x → Tab x) := fun x h => Tab.below HT.out h.bel
  go_loopw [25] (fun i x => ∃ k : Nat, k ≤ rs.length ∧ i = .int .i64 k ∧ FrS w w1.heap.size g cap1 #[.int .i64 base, .int .i64 1, .int .i64 prod, .int .i64 seq, .slice (some ⟨g, 0, none⟩) rs.length cap1] (numL k rs) x) (fun i _ => rs.length - (intOf i).toNat)
  case atStart => exact ⟨0, by omega, rfl, HF0.out⟩
  case round =>
    clear HF0
    obtain ⟨k, hk, rfl, hF⟩ := hrel
    obtain ⟨c0, c1, c2, c3, c4, cz⟩ := FrS.cells hF
    by_cases hlt : k < rs.length
    · have hltI : (k : Int) < (rs.length : Int) := by omega
      have hcel := hF.own.cellAt (k * 6 + 5) (by rw [numL_len]; omega)
      rw [rcv_get _ k 5 (by rw [numL_len]; exact hlt) (by decide)] at hcel
      have hfr := hF.own.frozenAt (k * 6 + 5)
      have hcel2 : wr.cell? ⟨g, k * 6 + 5, none⟩ = some (.int .i64 ((numL k rs).getD k rz).o) := hcel
      have HS : Hid (FrS w w1.heap.size g cap1 #[.int .i64 base, .int .i64 1, .int .i64 prod, .int .i64 seq, .slice (some ⟨g, 0, none⟩) rs.length cap1] (numL (k + 1) rs) (wr.setCell ⟨g, k * 6 + 5, none⟩ (.int .i64 (k : Int)))) := FrS.store hF hlt
      have hgx : g < wr.heap.size := by have := hF.lt; omega
      clear hcel hF
      generalize ((numL k rs).getD k rz).o = oo at *
      go_wp2_with fail
      exact ⟨⟨k + 1, by omega, by go_num, HS.out⟩, by simp [intOf]; omega⟩
    · obtain rfl : k = rs.length := by omega
      have HF : Hid (FrS w w1.heap.size g cap1 #[.int .i64 base, .int .i64 1, .int .i64 prod, .int .i64 seq, .slice (some ⟨g, 0, none⟩) rs.length cap1] (numL rs.length rs) wr) := hF
      have HRR : Hid (RRow wr (some ⟨g, 0, none⟩) (numL rs.length rs)) := FrS.rrow hF
      clear hF
      by_cases hck : ck = 0
      · subst hck
        have hRe : R = ⟨base, 1, prod, seq, numL rs.length rs⟩ := by rw [HFR.out, if_pos rfl]
        subst hRe
        go_wp2_with (first
          | (go_at_call 16; refine (HCK.out _ _ _ (HTX.out _ HF.out) HRR.out).mono ?_; rintro e w3 ⟨rfl, hb3⟩; have HF3 : Hid (FrS w w1.heap.size g cap1 #[.int .i64 base, .int .i64 1, .int .i64 prod, .int .i64 seq, .slice (some ⟨g, 0, none⟩) rs.length cap1] (numL rs.length rs) w3) := FrS.below HF.out hb3; clear c0 c1 c2 c3 c4 cz hb3; obtain ⟨c0, c1, c2, c3, c4, cz⟩ := FrS.cells HF3.out)
          | (have _t := HF3; refine wpList_store_row rfl 24 _ _ rfl w.heap.size #[.int .i64 base, .int .i64 1, .int .i64 prod, .int .i64 seq, .slice (some ⟨g, 0, none⟩) rs.length cap1] rfl rfl 24 _ HF3.out.res Tryd.info24 rfl (bat_one _ _ _ _ _ _ _) ?_))
        refine bodyPost_ret (v := .tuple #[.agg #[.int .i64 base, .int .i64 1, .int .i64 prod, .int .i64 seq, .slice (some ⟨g, 0, none⟩) rs.length cap1], .int .i64 0]) ?_ rfl ⟨some ⟨g, 0, none⟩, cap1, ?_, ?_, (fun c => by cases c), ?_⟩
        · exact results_bat (p := 8) (u := 9) (by rfl) _ _ w.heap.size _ _ (by rfl) (by rfl) rfl (setRow_heap _ _ _ _ _ _ HF3.out.res)
        · simp only [bav, numL_len]
        · exact RRow.keep (FrS.rrow HF3.out) (by have := (HF3.out.own.lt g rfl).1; omega)
        · exact below_setRow HF3.out.bel (Nat.le_refl _) _
      · have hck' : (ck != 0) = true := by rw [bne_iff_ne]; exact hck
        have hRe : R = bz := by rw [HFR.out, if_neg hck]
        subst hRe
        go_wp2_with (first
          | (go_at_call 16; refine (HCK.out _ _ _ (HTX.out _ HF.out) HRR.out).mono ?_; rintro e w3 ⟨rfl, hb3⟩; have HF3 : Hid (FrS w w1.heap.size g cap1 #[.int .i64 base, .int .i64 1, .int .i64 prod, .int .i64 seq, .slice (some ⟨g, 0, none⟩) rs.length cap1] (numL rs.length rs) w3) := FrS.below HF.out hb3; clear c0 c1 c2 c3 c4 cz hb3; obtain ⟨c0, c1, c2, c3, c4, cz⟩ := FrS.cells HF3.out)
          | (have _t := HF3; refine wpList_store_row rfl 24 _ _ rfl w.heap.size #[.int .i64 0, .int .i64 0, .int .i64 0, .int .i64 0, .slice none 0 0] rfl rfl 24 _ HF3.out.res Tryd.info24 rfl (bat_one _ _ _ _ _ _ _) ?_))
        refine bodyPost_ret (v := .tuple #[.agg #[.int .i64 0, .int .i64 0, .int .i64 0, .int .i64 0, .slice none 0 0], .int .i64 ck]) ?_ rfl ⟨none, 0, rfl, RRow.nil _ _, (fun _ => rfl), ?_⟩
        · exact results_bat (p := 8) (u := 9) (by rfl) _ _ w.heap.size _ _ (by rfl) (by rfl) rfl (setRow_heap _ _ _ _ _ _ HF3.out.res)
        · exact below_setRow HF3.out.bel (Nat.le_refl _) _
set_option maxRecDepth 100000 in
theorem fresh_none (base prod seq : Int) (a : Option Addr) (cap : Nat) (w : World) (hn : a = none → cap = 0) (ht : Tab w) (hp : prod ≤ 9223372036854775807) (hs : seq ≤ 9223372036854775807) :
    Calls Tryd.prog 23 #[.int .i64 base, .int .i64 prod, .int .i64 seq, .slice a 0 cap] w fun e w' => e = .returned (.tuple #[bav bz none 0, .int .i64 1]) ∧ Below w.heap.size w w' := by
  have HCL : Hid (∀ x, Calls Tryd.prog 45 #[.slice a 0 cap] x fun e w' => ∃ a' c', e = .returned (.slice a' 0 c') ∧ Below x.heap.size x w') := by
    intro x
    refine (cloneR_any a cap [] x (RRow.nil _ _) (by simp) hn).mono ?_
    rintro e w' ⟨v, rfl, ho, hb⟩
    obtain ⟨a', c', rfl, _⟩ := owns_rrow ho
    exact ⟨a', c', rfl, hb⟩
  have HCK : Hid (∀ x a' c', Tab x → Calls Tryd.prog 16 #[.agg #[.int .i64 base, .int .i64 1, .int .i64 prod, .int .i64 seq, .slice a' 0 c']] x fun e w' => e = .returned (.int .i64 1) ∧ Below x.heap.size x w') := by
    intro x a' c' h1
    have := bcheck_any ⟨base, 1, prod, seq, []⟩ a' c' x ⟨hp, hs⟩ (by simp) h1 (RRow.nil _ _)
    have hc : chkB ⟨base, 1, prod, seq, []⟩ = 1 := by
      have : wrE ⟨base, 1, prod, seq, []⟩ = 1 := by unfold wrE numsB; simp
      unfold chkB
      rw [this]
      simp
    rw [hc] at this
    exact this
  have HT : Hid (Tab w) := ht
  clear ht hn
  have h01 : ¬ (1 : Int) < 0 := by omega
  go_enter Tryd.func23, Tryd.ntmps23
  go_wp2_with (go_at_call 45; refine (HCL.out _).mono ?_; rintro e w1 ⟨a1, k1, rfl, hb1⟩; have HR1 : Hid (w1.heap[w.heap.size]? = some (.cells #[.int .i64 0, .int .i64 0, .int .i64 0, .int .i64 0, .slice none 0 0] 24 (0, 0))) := (by show _ = _; rw [hb1.block w.heap.size (by simp)]; exact heap_alloc_new w _); have HB1 : Hid (Below w.heap.size w w1) := (below_box _).trans (hb1.mono (by simp)); have hz1 : w.heap.size < w1.heap.size := (by have := hb1.size; simp at this; omega); clear hb1)
  go_loopw [25] (fun i x => i = .int .i64 0 ∧ x = w1.alloc (.cells #[.int .i64 base, .int .i64 1, .int .i64 prod, .int .i64 seq, .slice a1 0 k1] 24)) (fun _ _ => 0)
  case atStart => exact ⟨rfl, rfl⟩
  case round =>
    obtain ⟨rfl, rfl⟩ := hrel
    go_wp2_with (first
      | (go_at_call 16; refine (HCK.out _ _ _ (Tab.below (Tab.below HT.out HB1.out) (below_box _))).mono ?_; rintro e w3 ⟨rfl, hb3⟩; have HB3 : Hid (Below w.heap.size w w3) := (HB1.out.alloc HB1.out.size _).trans (hb3.mono (by simp; omega)); have HR3 : Hid (w3.heap[w.heap.size]? = some (.cells #[.int .i64 0, .int .i64 0, .int .i64 0, .int .i64 0, .slice none 0 0] 24 (0, 0))) := (by show _ = _; rw [hb3.block w.heap.size (by simp; omega), (below_box (w := w1) _).block w.heap.size hz1]; exact HR1.out))
      | (have _t := HR3; refine wpList_store_row rfl 24 _ _ rfl w.heap.size #[.int .i64 0, .int .i64 0, .int .i64 0, .int .i64 0, .slice none 0 0] rfl rfl 24 _ HR3.out Tryd.info24 rfl (bat_one _ _ _ _ _ _ _) ?_))
    refine bodyPost_ret (v := .tuple #[.agg #[.int .i64 0, .int .i64 0, .int .i64 0, .int .i64 0, .slice none 0 0], .int .i64 1]) ?_ rfl ⟨rfl, ?_⟩
    · exact results_bat (p := 8) (u := 9) (by rfl) _ _ w.heap.size _ _ (by rfl) (by rfl) rfl (setRow_heap _ _ _ _ _ _ HR3.out)
    · exact below_setRow HB3.out (Nat.le_refl _) _
theorem fr_none (base prod seq : Int) : chkB (frB base prod seq []) = 1 ∧ frR base prod seq [] = bz := by
  have h1 : wrE (frB base prod seq []) = 1 := by unfold wrE numsB frB numL; simp
  have h2 : chkB (frB base prod seq []) = 1 := by unfold chkB; rw [h1]; simp
  exact ⟨h2, by unfold frR; rw [h2]; simp⟩
/-- What Fresh leaves. -/
def Frs (f : Nat) (base prod seq : Int) (a : Option Addr) (cap : Nat) (rs : List Rc) : Prop := ∀ w, Tab w → RRow w a rs → Calls Tryd.prog f #[.int .i64 base, .int .i64 prod, .int .i64 seq, .slice a rs.length cap] w fun e w' => ∃ a' c', e = .returned (.tuple #[bav (frR base prod seq rs) a' c', .int .i64 (chkB (frB base prod seq rs))]) ∧ RRow w' a' (frR base prod seq rs).rs ∧ (a' = none → c' = 0) ∧ Below w.heap.size w w'
theorem fresh_any (base prod seq : Int) (a : Option Addr) (cap : Nat) (rs : List Rc) (hl : rs.length ≤ 1000) (hn : a = none → cap = 0) (hp : prod ≤ 9223372036854775807) (hs : seq ≤ 9223372036854775807) : Frs 23 base prod seq a cap rs := fun w ht hr => by
  by_cases h0 : rs = []
  · subst h0
    rw [(fr_none base prod seq).1, (fr_none base prod seq).2]
    refine (fresh_none base prod seq a cap w hn ht hp hs).mono ?_
    rintro e w' ⟨rfl, hb⟩
    exact ⟨none, 0, rfl, RRow.nil _ _, fun _ => rfl, hb⟩
  · have hpos : 0 < rs.length := List.length_pos_iff.2 h0
    by_cases h1 : (1 : Int) < (rs.length : Int)
    · exact fresh_more base prod seq a cap rs w hr hl hn ht hp hs hpos h1
    · exact fresh_one base prod seq a cap rs w hr hl hn ht hp hs hpos h1
end Go.Proofs.YtgpeldmplkijlaaDoor
